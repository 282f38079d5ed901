package tuplet

import (
	"math"
	"math/big"
	"math/rand"
	"slices"
	"testing"

	"hemiola/api"
)

const (
	whole   = 1935360
	eighth  = whole / 8
	quarter = whole / 4
)

type list = []api.Tuplet

// tri is a tuplet of three in the time of two.
func tri(first, count int) api.Tuplet {
	return api.Tuplet{First: first, Count: count, Actual: 3, Normal: 2}
}

var (
	three  = list{{First: 0, Count: 3, Actual: 3, Normal: 2}}
	nested = list{{First: 0, Count: 5, Actual: 3, Normal: 2}, {First: 1, Count: 3, Actual: 3, Normal: 2}}
)

// invalid are lists that Check rejects for any number of events.
var invalid = []list{
	{{First: 0, Count: 3, Actual: 3, Normal: 3}},
	{{First: -1, Count: 3, Actual: 3, Normal: 2}},
	{{First: 0, Count: 129, Actual: 3, Normal: 2}},
	{{First: 1, Count: 1, Actual: 3, Normal: 2}, {First: 0, Count: 2, Actual: 3, Normal: 2}},
	{{First: 0, Count: 2, Actual: 3, Normal: 2}, {First: 1, Count: 2, Actual: 3, Normal: 2}},
	make(list, 17),
}

// P3.1
func TestCheck(t *testing.T) {
	many := func(n int) list {
		var l list
		for i := range n {
			l = append(l, tri(i, 1))
		}
		return l
	}
	ratio := func(actual, normal int) list { return list{{First: 0, Count: 3, Actual: actual, Normal: normal}} }
	for i, c := range []struct {
		l      list
		events int
		e      api.Errno
	}{
		{nil, 0, api.OK}, {nil, 128, api.OK}, {nil, 129, api.ErrRange}, {nil, -1, api.ErrRange},
		{nil, math.MinInt, api.ErrRange}, {nil, math.MaxInt, api.ErrRange},
		{many(16), 16, api.OK}, {many(17), 17, api.ErrLimit}, {many(17), 129, api.ErrRange}, {many(17), 0, api.ErrLimit},

		{three, 3, api.OK}, {three, 2, api.ErrRange}, {three, 0, api.ErrRange},
		{list{tri(0, 0)}, 3, api.ErrRange}, {list{tri(0, -1)}, 3, api.ErrRange}, {list{tri(-1, 2)}, 3, api.ErrRange},
		{list{tri(2, 1)}, 3, api.OK}, {list{tri(3, 1)}, 3, api.ErrRange}, {list{tri(2, 2)}, 3, api.ErrRange},
		{list{tri(math.MaxInt, 1)}, 3, api.ErrRange}, {list{tri(1, math.MaxInt)}, 3, api.ErrRange},
		{list{tri(math.MaxInt, math.MaxInt)}, 3, api.ErrRange}, {list{tri(math.MinInt, math.MinInt)}, 3, api.ErrRange},
		{list{tri(127, 1)}, 128, api.OK}, {list{tri(0, 128)}, 128, api.OK}, {list{tri(0, 129)}, 128, api.ErrRange},
		{ratio(1, 2), 3, api.OK}, {ratio(32, 1), 3, api.OK}, {ratio(1, 32), 3, api.OK},
		{ratio(0, 2), 3, api.ErrRange}, {ratio(2, 0), 3, api.ErrRange}, {ratio(33, 2), 3, api.ErrRange}, {ratio(2, 33), 3, api.ErrRange},
		{ratio(3, 3), 3, api.ErrRange}, {ratio(-3, 2), 3, api.ErrRange}, {ratio(3, -2), 3, api.ErrRange}, {ratio(6, 4), 3, api.OK},

		{list{tri(1, 1), tri(0, 2)}, 3, api.ErrOrder}, {list{tri(0, 1), tri(0, 2)}, 3, api.ErrOrder},
		{list{tri(0, 2), tri(0, 1)}, 3, api.OK}, {list{tri(0, 1), tri(1, 1)}, 3, api.OK}, {list{tri(0, 2), tri(0, 2)}, 3, api.OK},
		{list{tri(0, 2), tri(1, 2)}, 3, api.ErrTuplet}, {list{tri(0, 2), tri(1, 1)}, 3, api.OK}, {list{tri(0, 2), tri(2, 1)}, 3, api.OK},
		{list{tri(0, 5), tri(1, 2), tri(2, 2)}, 5, api.ErrTuplet}, {list{tri(0, 5), tri(1, 2), tri(3, 2)}, 5, api.OK},
		{list{tri(0, 5), tri(1, 2), tri(3, 3)}, 6, api.ErrTuplet}, {list{tri(0, 5), tri(1, 2), tri(4, 2), tri(6, 1)}, 7, api.ErrTuplet},
		{list{tri(0, 4), tri(0, 4), tri(0, 4)}, 4, api.OK}, {list{tri(0, 4), tri(0, 4), tri(0, 4), tri(0, 4)}, 4, api.ErrTuplet},
		{list{tri(0, 4), tri(0, 4), tri(0, 2), tri(1, 1)}, 4, api.ErrTuplet}, {list{tri(0, 4), tri(0, 4), tri(0, 2), tri(2, 1)}, 4, api.OK},

		// The first error in the list comes first, and for a tuplet the one that is named first.
		{list{tri(0, 2), tri(1, 2), {}}, 3, api.ErrTuplet}, {list{tri(1, 1), tri(0, 2), {}}, 3, api.ErrOrder},
		{list{{}, tri(0, 2), tri(1, 2)}, 3, api.ErrRange}, {list{tri(1, 2), tri(0, 4)}, 3, api.ErrRange},
		{list{tri(1, 2), tri(0, 2)}, 3, api.ErrOrder}, {list{tri(0, 2), tri(1, 3)}, 3, api.ErrRange},
	} {
		if e := Check(c.l, c.events); e != c.e {
			t.Errorf("%d: Check(%v, %d) = %d; want %d", i, c.l, c.events, e, c.e)
		}
	}
	for _, l := range invalid {
		if Check(l, api.MaxEvents) == api.OK {
			t.Errorf("Check(%v) is OK", l)
		}
	}
}

// crossing is Check for the order and the nesting of tuplets, by their events.
func crossing(l list) api.Errno {
	in := func(t api.Tuplet, i int) bool { return t.First <= i && i < t.First+t.Count }
	for i, b := range l {
		if i > 0 && (b.First < l[i-1].First || b.First == l[i-1].First && b.Count > l[i-1].Count) {
			return api.ErrOrder
		}
		for e := b.First; e < b.First+b.Count; e++ {
			depth := 0
			for _, a := range l[:i] {
				if in(a, e) {
					depth++
					if !in(a, b.First) || !in(a, b.First+b.Count-1) {
						return api.ErrTuplet
					}
				}
			}
			if depth >= 3 {
				return api.ErrTuplet
			}
		}
	}
	return api.OK
}

// P3.1: random lists, compared event by event.
func TestCheckRandom(t *testing.T) {
	r := rand.New(rand.NewSource(1))
	seen := map[api.Errno]int{}
	for range 20000 {
		var l list
		for range 1 + r.Intn(5) {
			first := r.Intn(6)
			l = append(l, tri(first, 1+r.Intn(6-first)))
		}
		if r.Intn(4) > 0 {
			l = Canonical(l)
		}
		e := Check(l, 6)
		seen[e]++
		if want := crossing(l); e != want {
			t.Fatalf("Check(%v) = %d; want %d", l, e, want)
		}
	}
	if seen[api.OK] == 0 || seen[api.ErrOrder] == 0 || seen[api.ErrTuplet] == 0 {
		t.Error(seen)
	}
}

// P3.1
func TestCanonical(t *testing.T) {
	l := list{tri(4, 2), {First: 0, Count: 2, Actual: 5, Normal: 4}, tri(0, 5), tri(0, 2), {First: 0, Count: 2, Actual: 7, Normal: 4}}
	before := slices.Clone(l)
	want := list{tri(0, 5), {First: 0, Count: 2, Actual: 5, Normal: 4}, tri(0, 2), {First: 0, Count: 2, Actual: 7, Normal: 4}, tri(4, 2)}
	got := Canonical(l)
	if !slices.Equal(got, want) || !slices.Equal(l, before) {
		t.Error(got, l)
	}
	got[0].First = 9
	if !slices.Equal(l, before) || len(Canonical(nil)) != 0 {
		t.Error("the result is not new memory")
	}
	// Differences would overflow.
	far := list{tri(math.MaxInt, math.MinInt), tri(math.MinInt, 0), tri(math.MaxInt, math.MaxInt)}
	if got := Canonical(far); !slices.Equal(got, list{far[1], far[2], far[0]}) {
		t.Error(got)
	}
	// Many equal tuplets stay in their order.
	var many list
	for i := range 100 {
		many = append(many, api.Tuplet{First: -(i % 3), Count: 1, Actual: i})
	}
	got = Canonical(many)
	for i := 1; i < len(got); i++ {
		if a, b := got[i-1], got[i]; a.First > b.First || a.First == b.First && a.Actual > b.Actual {
			t.Error(a, b)
		}
	}
}

// P3.1
func TestEqual(t *testing.T) {
	for _, c := range []struct {
		a, b list
		want bool
	}{
		{nil, list{}, true}, {three, slices.Clone(three), true}, {three, nil, false}, {nested, nested[:1], false},
		{list{tri(0, 1), tri(1, 1)}, list{tri(1, 1), tri(0, 1)}, false},
		{three, list{{First: 0, Count: 3, Actual: 3, Normal: 4}}, false}, {three, list{{First: 0, Count: 3, Actual: 5, Normal: 2}}, false},
		{three, list{tri(1, 3)}, false}, {three, list{tri(0, 2)}, false},
	} {
		if Equal(c.a, c.b) != c.want || Equal(c.b, c.a) != c.want {
			t.Error(c.a, c.b)
		}
	}
}

// P3.2
func TestDepthAndRatio(t *testing.T) {
	sixes := list{{First: 2, Count: 3, Actual: 6, Normal: 4}, {First: 3, Count: 1, Actual: 4, Normal: 3}, {First: 3, Count: 1, Actual: 32, Normal: 1}}
	for _, c := range []struct {
		l                      list
		event, depth, num, den int
	}{
		{nil, 0, 0, 1, 1}, {nil, -1, 0, 1, 1}, {nil, math.MaxInt, 0, 1, 1},
		{nested, -1, 0, 1, 1}, {nested, 0, 1, 2, 3}, {nested, 1, 2, 4, 9}, {nested, 3, 2, 4, 9}, {nested, 4, 1, 2, 3}, {nested, 5, 0, 1, 1},
		{sixes, 1, 0, 1, 1}, {sixes, 2, 1, 2, 3}, {sixes, 3, 3, 1, 64}, {sixes, 4, 1, 2, 3}, {sixes, 128, 0, 1, 1}, {sixes, math.MinInt, 0, 1, 1},
		{list{{First: 0, Count: 1, Actual: 3, Normal: 2}, {First: 0, Count: 1, Actual: 2, Normal: 3}}, 0, 2, 1, 1},
		{list{{First: 0, Count: 1, Actual: 1, Normal: 32}}, 0, 1, 32, 1},
	} {
		if d := Depth(c.l, c.event); d != c.depth {
			t.Errorf("Depth(%v, %d) = %d", c.l, c.event, d)
		}
		if num, den := Ratio(c.l, c.event); num != c.num || den != c.den {
			t.Errorf("Ratio(%v, %d) = %d, %d", c.l, c.event, num, den)
		}
	}
	for _, l := range invalid {
		if num, den := Ratio(l, 1); num != 0 || den != 0 || Depth(l, 1) != 0 {
			t.Errorf("Ratio(%v) = %d, %d; Depth = %d", l, num, den, Depth(l, 1))
		}
	}
}

// P3.3
func TestLength(t *testing.T) {
	for _, c := range []struct {
		l                    list
		event, written, want int
		e                    api.Errno
	}{
		{three, 0, eighth, 161280, api.OK}, {three, 3, eighth, eighth, api.OK}, {nested, 2, eighth / 2, 53760, api.OK},
		{nil, 127, 4 * whole, 4 * whole, api.OK}, {nil, 0, 0, 0, api.OK}, {three, 1, 0, 0, api.OK},
		{three, 1, 1, 0, api.ErrTick}, {three, 1, 2, 0, api.ErrTick}, {three, 1, 3, 2, api.OK}, {nested, 1, 3, 0, api.ErrTick}, {nested, 1, 9, 4, api.OK},
		{list{{First: 0, Count: 1, Actual: 2, Normal: 3}, tri(0, 1)}, 0, 1, 1, api.OK},
		{list{{First: 0, Count: 1, Actual: 1, Normal: 32}, {First: 0, Count: 1, Actual: 1, Normal: 32}, {First: 0, Count: 1, Actual: 1, Normal: 32}}, 0, 4 * whole, 4 * whole << 15, api.OK},
		{three, 128, 3, 0, api.ErrRange}, {three, -1, 3, 0, api.ErrRange}, {three, math.MaxInt, 3, 0, api.ErrRange},
		{three, 0, -1, 0, api.ErrRange}, {three, 0, -3, 0, api.ErrRange}, {three, 0, 4*whole + 1, 0, api.ErrRange}, {three, 0, math.MaxInt, 0, api.ErrRange}, {three, 0, math.MinInt, 0, api.ErrRange},
		{invalid[0], 128, -1, 0, api.ErrRange}, {invalid[3], 128, -1, 0, api.ErrOrder}, {invalid[4], 0, 1, 0, api.ErrTuplet}, {invalid[5], 0, 1, 0, api.ErrLimit},
	} {
		if n, e := Length(c.l, c.event, c.written); n != c.want || e != c.e {
			t.Errorf("Length(%v, %d, %d) = %d, %d; want %d, %d", c.l, c.event, c.written, n, e, c.want, c.e)
		}
	}
}

// P3.3
func TestLengths(t *testing.T) {
	for i, c := range []struct {
		l             list
		written, want []int
		e             api.Errno
	}{
		{nil, nil, nil, api.OK},
		{three, []int{eighth, eighth, eighth, eighth}, []int{161280, 161280, 161280, 241920}, api.OK},
		{nested, []int{eighth, eighth / 2, eighth / 2, eighth / 2, eighth}, []int{161280, 53760, 53760, 53760, 161280}, api.OK},
		{three, []int{eighth, eighth}, nil, api.ErrRange},
		{nil, make([]int, 128), make([]int, 128), api.OK},
		{nil, make([]int, 129), nil, api.ErrRange},
		{invalid[3], []int{-1, 0, 0}, nil, api.ErrOrder},
		{three, []int{3, 1, -1}, nil, api.ErrTick},
		{three, []int{3, -1, 1}, nil, api.ErrRange},
		{three, []int{3, 3, 3, 4*whole + 1}, nil, api.ErrRange},
		{three, []int{4 * whole, 0, 3, 1}, []int{8 * whole / 3, 0, 2, 1}, api.OK},
	} {
		got, e := Lengths(c.l, c.written)
		if !slices.Equal(got, c.want) || e != c.e {
			t.Errorf("%d: Lengths = %v, %d; want %v, %d", i, got, e, c.want, c.e)
		}
		total := 0
		for _, n := range c.want {
			total += n
		}
		if n, e := Sum(c.l, c.written); n != total || e != c.e {
			t.Errorf("%d: Sum = %d, %d; want %d, %d", i, n, e, total, c.e)
		}
	}
}

// P3.4
func TestTree(t *testing.T) {
	for i, c := range []struct {
		l      list
		events int
		want   []int
		e      api.Errno
	}{
		{nil, 0, nil, api.OK},
		{nested, 5, []int{-1, 0}, api.OK},
		{list{tri(0, 9), tri(0, 9), tri(0, 2), tri(2, 1), tri(4, 5), tri(9, 2), tri(10, 1)}, 11, []int{-1, 0, 1, 1, 1, -1, 5}, api.OK},
		{list{tri(0, 2), tri(2, 2)}, 4, []int{-1, -1}, api.OK},
		{nested, 4, nil, api.ErrRange},
		{nested, -1, nil, api.ErrRange},
		{invalid[4], 3, nil, api.ErrTuplet},
	} {
		if got, e := Tree(c.l, c.events); !slices.Equal(got, c.want) || e != c.e {
			t.Errorf("%d: Tree = %v, %d; want %v, %d", i, got, e, c.want, c.e)
		}
	}
}

// P3.4
func TestUnits(t *testing.T) {
	const shortest = whole / 256
	back := list{{First: 0, Count: 2, Actual: 2, Normal: 3}, tri(0, 2)} // the lengths are the written ones
	for i, c := range []struct {
		l             list
		written, want []int
		e             api.Errno
	}{
		{nil, []int{1, 2, 3}, nil, api.OK},
		{three, []int{eighth, eighth, eighth}, []int{3}, api.OK},
		{three, []int{quarter, eighth, 0}, []int{3}, api.OK},
		{nested, []int{eighth, eighth / 2, eighth / 2, eighth / 2, eighth}, []int{3, 4}, api.OK},
		{list{tri(0, 2), tri(2, 3)}, []int{whole, whole / 2, eighth, eighth, eighth}, []int{1, 3}, api.OK},
		{list{{First: 0, Count: 2, Actual: 2, Normal: 3}}, []int{2 * whole, 2 * whole}, []int{-1}, api.OK},
		{list{{First: 0, Count: 1, Actual: 1, Normal: 2}}, []int{4 * whole}, nil, api.ErrTuplet},
		{three, []int{shortest, shortest, shortest}, []int{8}, api.OK},
		{three, []int{shortest / 2, shortest / 2, shortest / 2}, nil, api.ErrTuplet},
		{three, []int{eighth * 3 / 2, eighth * 3 / 2, eighth * 3 / 2}, nil, api.ErrTuplet},
		{three, []int{eighth, eighth, eighth + 3}, nil, api.ErrTuplet},
		{three, []int{0, 0, 0}, nil, api.ErrTuplet},

		// Three quarters are 2 quarters of the outer tuplet, and 3 of the inner one; one tick more or less makes the lengths within the outer one broken, though not their sum.
		{back, []int{3 * eighth, 3 * eighth}, []int{2, 2}, api.OK},
		{back, []int{3*eighth + 3, 3*eighth - 3}, []int{2, 2}, api.OK},
		{back, []int{3*eighth + 1, 3*eighth - 1}, nil, api.ErrTuplet},
		{list{tri(0, 3), tri(0, 2)}, []int{9 * eighth, 0, 9 * eighth}, nil, api.ErrTuplet},

		{three, []int{eighth, eighth, 1}, nil, api.ErrTick},
		{three, []int{eighth, eighth, -1}, nil, api.ErrRange},
		{three, []int{eighth, eighth, 4*whole + 1}, nil, api.ErrRange},
		{three, []int{eighth, eighth}, nil, api.ErrRange},
		{list{tri(0, 1), tri(1, 1)}, []int{0, 1}, nil, api.ErrTick},
		{invalid[4], []int{1, 1, 1}, nil, api.ErrTuplet},
	} {
		if got, e := Units(c.l, c.written); !slices.Equal(got, c.want) || e != c.e {
			t.Errorf("%d: Units = %v, %d; want %v, %d", i, got, e, c.want, c.e)
		}
	}
}

// some returns tuplets of a number of events that pass Check.
func some(r *rand.Rand, events int) list {
	for {
		var l list
		for range r.Intn(5) {
			first := r.Intn(events)
			ratio := [][2]int{{3, 2}, {2, 3}, {5, 4}, {6, 4}, {7, 8}, {4, 3}}[r.Intn(6)]
			l = append(l, api.Tuplet{First: first, Count: 1 + r.Intn(events-first), Actual: ratio[0], Normal: ratio[1]})
		}
		if l = Canonical(l); Check(l, events) == api.OK {
			return l
		}
	}
}

// ratio multiplies the ratios of the tuplets that contain an event as exact fractions.
func ratio(l list, event int) *big.Rat {
	x := big.NewRat(1, 1)
	for _, t := range l {
		if t.First <= event && event-t.First < t.Count {
			x.Mul(x, big.NewRat(int64(t.Normal), int64(t.Actual)))
		}
	}
	return x
}

// exactUnits returns the units of tuplets, calculated with exact fractions.
func exactUnits(l list, written []int) ([]int, bool) {
	var units []int
	for i, t := range l {
		sum := new(big.Rat)
		for e := t.First; e < t.First+t.Count; e++ {
			n := new(big.Rat).SetInt64(int64(written[e]))
			if n.Mul(n, ratio(l[i+1:], e)); !n.IsInt() {
				return nil, false
			}
			sum.Add(sum, n)
		}
		sum.Quo(sum, big.NewRat(int64(t.Actual), 1))
		log := -1
		for length := big.NewRat(2*whole, 1); log <= 8 && length.Cmp(sum) != 0; log++ {
			length.Quo(length, big.NewRat(2, 1))
		}
		if log > 8 {
			return nil, false
		}
		units = append(units, log)
	}
	return units, true
}

// P3.2 to P3.4: random tuplets, compared with exact fractions.
func TestLengthsRandom(t *testing.T) {
	r := rand.New(rand.NewSource(2))
	seen := map[api.Errno]int{}
	for range 20000 {
		written := make([]int, 1+r.Intn(5))
		for i := range written {
			written[i] = r.Intn(4) * []int{eighth, eighth, eighth / 2, whole, 27, 1}[r.Intn(6)]
		}
		l := some(r, len(written))
		want, e := make([]int, len(written)), api.OK
		for i, w := range written {
			x := ratio(l, i)
			if num, den := Ratio(l, i); big.NewRat(int64(num), int64(den)).Cmp(x) != 0 || int64(num) != x.Num().Int64() {
				t.Fatalf("Ratio(%v, %d) = %d, %d; want %s", l, i, num, den, x)
			}
			if x.Mul(x, big.NewRat(int64(w), 1)); !x.IsInt() {
				e = api.ErrTick
			}
			want[i] = int(x.Num().Int64())
		}
		if e != api.OK {
			want = nil
		}
		if got, f := Lengths(l, written); !slices.Equal(got, want) || f != e {
			t.Fatalf("Lengths(%v, %v) = %v, %d; want %v, %d", l, written, got, f, want, e)
		}
		var units []int
		if e == api.OK {
			var ok bool
			if units, ok = exactUnits(l, written); !ok {
				e = api.ErrTuplet
			}
		}
		seen[e]++
		if got, f := Units(l, written); !slices.Equal(got, units) || f != e {
			t.Fatalf("Units(%v, %v) = %v, %d; want %v, %d", l, written, got, f, units, e)
		}
	}
	if seen[api.OK] < 100 || seen[api.ErrTick] < 100 || seen[api.ErrTuplet] < 100 {
		t.Error(seen)
	}
}

// P3.5
func TestInsert(t *testing.T) {
	for i, c := range []struct {
		l                 list
		events, at, count int
		want              list
		e                 api.Errno
	}{
		{nil, 0, 0, 128, nil, api.OK},
		{nested, 6, 0, 2, list{tri(2, 5), tri(3, 3)}, api.OK},
		{nested, 6, 1, 2, list{tri(0, 7), tri(3, 3)}, api.OK},
		{nested, 6, 2, 2, list{tri(0, 7), tri(1, 5)}, api.OK},
		{nested, 6, 4, 2, list{tri(0, 7), tri(1, 3)}, api.OK},
		{nested, 6, 5, 2, nested, api.OK},
		{nested, 6, 6, 2, nested, api.OK},
		{nested, 6, 3, 0, nested, api.OK},
		{nested, 6, 3, 122, list{tri(0, 127), tri(1, 125)}, api.OK},
		{nested, 6, 3, 123, nil, api.ErrRange},
		{nested, 6, 7, 0, nil, api.ErrRange},
		{nested, 6, -1, 1, nil, api.ErrRange},
		{nested, 6, 1, -1, nil, api.ErrRange},
		{nested, 6, math.MaxInt, 1, nil, api.ErrRange},
		{nested, 6, math.MinInt, 1, nil, api.ErrRange},
		{nested, 6, 1, math.MaxInt, nil, api.ErrRange},
		{nested, 6, 1, math.MinInt, nil, api.ErrRange},
		{nested, 4, -1, -1, nil, api.ErrRange},
		{nested, 129, 0, 0, nil, api.ErrRange},
		{invalid[4], 6, -1, -1, nil, api.ErrTuplet},
	} {
		before := slices.Clone(c.l)
		got, e := Insert(c.l, c.events, c.at, c.count)
		if !slices.Equal(got, c.want) || e != c.e || !slices.Equal(c.l, before) {
			t.Errorf("%d: Insert = %v, %d; want %v, %d", i, got, e, c.want, c.e)
		}
	}
}

// P3.5
func TestDelete(t *testing.T) {
	for i, c := range []struct {
		l                 list
		events, at, count int
		want              list
		e                 api.Errno
	}{
		{nil, 0, 0, 0, nil, api.OK},
		{nested, 6, 0, 1, list{tri(0, 4), tri(0, 3)}, api.OK},
		{nested, 6, 0, 2, list{tri(0, 3), tri(0, 2)}, api.OK},
		{nested, 6, 2, 1, list{tri(0, 4), tri(1, 2)}, api.OK},
		{nested, 6, 1, 3, list{tri(0, 2)}, api.OK},
		{nested, 6, 3, 3, list{tri(0, 3), tri(1, 2)}, api.OK},
		{nested, 6, 5, 1, nested, api.OK},
		{nested, 6, 2, 0, nested, api.OK},
		{nested, 6, 6, 0, nested, api.OK},
		{nested, 6, 0, 6, nil, api.OK},
		{list{tri(2, 2)}, 6, 0, 3, list{tri(0, 1)}, api.OK},
		{list{tri(0, 2), tri(2, 2)}, 4, 1, 2, list{tri(0, 1), tri(1, 1)}, api.OK},
		{list{tri(0, 3), {First: 0, Count: 2, Actual: 5, Normal: 4}}, 3, 2, 1, list{tri(0, 2), {First: 0, Count: 2, Actual: 5, Normal: 4}}, api.OK},
		{nested, 6, 4, 3, nil, api.ErrRange},
		{nested, 6, 7, 0, nil, api.ErrRange},
		{nested, 6, -1, 1, nil, api.ErrRange},
		{nested, 6, 1, -1, nil, api.ErrRange},
		{nested, 6, math.MaxInt, math.MaxInt, nil, api.ErrRange},
		{nested, 6, math.MaxInt, 0, nil, api.ErrRange},
		{nested, 6, 0, math.MaxInt, nil, api.ErrRange},
		{nested, 6, math.MinInt, 1, nil, api.ErrRange},
		{nested, 6, 1, math.MinInt, nil, api.ErrRange},
		{nested, 4, -1, -1, nil, api.ErrRange},
		{invalid[4], 6, -1, -1, nil, api.ErrTuplet},
	} {
		before := slices.Clone(c.l)
		got, e := Delete(c.l, c.events, c.at, c.count)
		if !slices.Equal(got, c.want) || e != c.e || !slices.Equal(c.l, before) {
			t.Errorf("%d: Delete = %v, %d; want %v, %d", i, got, e, c.want, c.e)
		}
	}
}

// members returns, for each tuplet, its events, which are given by their names.
func members(l list, names []int) [][]int {
	var sets [][]int
	for _, t := range l {
		sets = append(sets, names[t.First:t.First+t.Count])
	}
	return sets
}

// P3.5, P3.6: random tuplets; what a tuplet contains is compared event by event.
func TestInsertAndDeleteRandom(t *testing.T) {
	r := rand.New(rand.NewSource(3))
	for range 20000 {
		events := 1 + r.Intn(8)
		l := some(r, events)
		names := make([]int, events)
		for i := range names {
			names[i] = i
		}
		at, count := r.Intn(events+1), r.Intn(4)
		longer, e := Insert(l, events, at, count)
		if e != api.OK || Check(longer, events+count) != api.OK || len(longer) != len(l) {
			t.Fatalf("Insert(%v, %d, %d, %d) = %v, %d", l, events, at, count, longer, e)
		}
		added := slices.Insert(slices.Clone(names), at, slices.Repeat([]int{-1}, count)...)
		grown := false
		for i, got := range members(longer, added) {
			want := slices.Clone(members(l, names)[i])
			if k := slices.Index(want, at); k > 0 {
				grown = grown || count > 0
				want = slices.Insert(want, k, slices.Repeat([]int{-1}, count)...)
			}
			if !slices.Equal(got, want) || longer[i].Actual != l[i].Actual || longer[i].Normal != l[i].Normal {
				t.Fatalf("Insert(%v, %d, %d, %d) = %v", l, events, at, count, longer)
			}
		}
		if again, e := Delete(longer, events+count, at, count); e != api.OK || !grown && !Equal(again, l) {
			t.Fatalf("Delete of what was inserted into %v = %v, %d", l, again, e)
		}

		count = r.Intn(events - min(at, events) + 1)
		shorter, e := Delete(l, events, at, count)
		if e != api.OK || Check(shorter, events-count) != api.OK {
			t.Fatalf("Delete(%v, %d, %d, %d) = %v, %d", l, events, at, count, shorter, e)
		}
		gone := func(name int) bool { return name >= at && name < at+count }
		left := slices.DeleteFunc(slices.Clone(names), gone)
		sets := members(shorter, left)
		for i, before := range members(l, names) {
			want := slices.DeleteFunc(slices.Clone(before), gone)
			if len(want) == 0 {
				continue
			}
			if len(sets) == 0 || !slices.Equal(sets[0], want) || shorter[0].Actual != l[i].Actual || shorter[0].Normal != l[i].Normal {
				t.Fatalf("Delete(%v, %d, %d, %d): %v remains", l, events, at, count, shorter)
			}
			sets, shorter = sets[1:], shorter[1:]
		}
		if len(sets) != 0 {
			t.Fatalf("Delete(%v, %d, %d, %d) leaves too much", l, events, at, count)
		}
	}
}

// P3.6
func TestConsequences(t *testing.T) {
	r := rand.New(rand.NewSource(4))
	for range 2000 {
		events := 1 + r.Intn(6)
		l := some(r, events)
		written := make([]int, events)
		larger := make([]int, events)
		by := 1 + r.Intn(8)
		for i := range written {
			written[i] = r.Intn(30) * 945
			larger[i] = written[i] * by
		}
		a, e := Lengths(l, written)
		if e != api.OK {
			continue
		}
		b, e := Lengths(l, larger)
		for i := range a {
			if e != api.OK || b[i] != a[i]*by {
				t.Fatalf("Lengths(%v, %v) = %v, %d", l, larger, b, e)
			}
			without := slices.DeleteFunc(slices.Clone(l), func(u api.Tuplet) bool { return i < u.First || i >= u.First+u.Count })
			if n, e := Length(without, i, written[i]); n != a[i] || e != api.OK {
				t.Fatalf("Length(%v, %d, %d) = %d, %d; want %d", without, i, written[i], n, e, a[i])
			}
		}
	}
}

// P3.6
func TestResultsAreNew(t *testing.T) {
	l, written := slices.Clone(nested), []int{eighth, eighth / 2, eighth / 2, eighth / 2, eighth}
	given := slices.Clone(written)
	a, _ := Insert(l, 6, 5, 2)
	b, _ := Delete(l, 6, 5, 1)
	a[0].Count, b[0].Count = 9, 9
	n, _ := Lengths(l, written)
	n[0] = 9
	Units(l, written)
	if !Equal(l, nested) || !slices.Equal(written, given) {
		t.Error(l, written)
	}
}
