package duration

import (
	"math"
	"slices"
	"strings"
	"testing"

	"hemiola/api"
)

// grid yields note values around the valid ones, and far from them.
func grid() []api.Value {
	var l []api.Value
	for _, log := range []int{math.MinInt, -3, -2, -1, 0, 1, 2, 3, 4, 5, 6, 7, 8, 9, 10, math.MaxInt} {
		for _, dots := range []int{math.MinInt, -1, 0, 1, 2, 3, 4, math.MaxInt} {
			l = append(l, api.Value{Log: log, Dots: dots})
		}
	}
	return l
}

func valid(v api.Value) bool { return v.Log >= -1 && v.Log <= 8 && v.Dots >= 0 && v.Dots <= 3 }

// P2.1
func TestTicks(t *testing.T) {
	for _, v := range grid() {
		n, e := Ticks(v)
		if !valid(v) {
			if n != 0 || e != api.ErrValue || Check(v) != api.ErrValue {
				t.Errorf("Ticks(%v) = %d, %d; Check = %d", v, n, e, Check(v))
			}
			continue
		}
		// All dots together: 2^(Dots + 1) - 1 parts of which 2^Dots are the plain value.
		want := 1935360 * 2 / (1 << (v.Log + 1)) * (1<<(v.Dots+1) - 1) / (1 << v.Dots)
		if n != want || e != api.OK || Check(v) != api.OK {
			t.Errorf("Ticks(%v) = %d, %d; want %d", v, n, e, want)
		}
	}
	for _, c := range []struct {
		v     api.Value
		ticks int
	}{
		{api.Value{Log: 2}, 483840},
		{api.Value{Log: 2, Dots: 1}, 725760},
		{api.Value{Log: -1, Dots: 3}, 7257600},
		{api.Value{Log: 8}, 7560},
	} {
		if n, _ := Ticks(c.v); n != c.ticks {
			t.Errorf("Ticks(%v) = %d; want %d", c.v, n, c.ticks)
		}
	}
}

// P2.1
func TestFind(t *testing.T) {
	known := map[int]api.Value{}
	for _, v := range grid() {
		if n, e := Ticks(v); e == api.OK {
			known[n] = v
		}
	}
	if len(known) != 40 {
		t.Errorf("%d durations", len(known))
	}
	for n := -10; n <= MaxTicks; n += 5 {
		v, e := Find(n)
		if w, ok := known[n]; ok && (v != w || e != api.OK) || !ok && (v != api.Value{} || e != api.ErrValue) {
			t.Errorf("Find(%d) = %v, %d", n, v, e)
		}
	}
	for _, n := range []int{math.MinInt, math.MaxInt, -483840, 483839, 483841, 4 * 1935360} {
		if v, e := Find(n); v != (api.Value{}) || e != api.ErrValue {
			t.Errorf("Find(%d) = %v, %d", n, v, e)
		}
	}
}

// P2.2
func TestAll(t *testing.T) {
	l := All()
	if len(l) != 40 || l[0] != (api.Value{Log: -1, Dots: 3}) || l[4] != (api.Value{Log: 0, Dots: 3}) || l[39] != (api.Value{Log: 8}) {
		t.Fatalf("All = %v", l)
	}
	for i := 1; i < len(l); i++ {
		a, _ := Ticks(l[i-1])
		b, e := Ticks(l[i])
		if e != api.OK || b >= a {
			t.Errorf("%v does not follow %v", l[i], l[i-1])
		}
	}
	l[0] = api.Value{}
	if All()[0] != (api.Value{Log: -1, Dots: 3}) {
		t.Error("the result is not new memory")
	}
}

// better says whether a list of durations has fewer notes, or as many and the greater first difference.
func better(a, b []int) bool {
	if len(a) != len(b) {
		return len(a) < len(b)
	}
	return slices.Compare(a, b) > 0
}

// bests returns, for every multiple of 945 up to MaxTicks, the durations of the best list, or nil.
func bests() [][]int {
	var coins []int
	for _, v := range grid() {
		if n, e := Ticks(v); e == api.OK {
			coins = append(coins, n/945)
		}
	}
	best := make([][]int, MaxTicks/945+1)
	best[0] = []int{}
	for n := 1; n < len(best); n++ {
		for _, c := range coins {
			if c > n || best[n-c] == nil {
				continue
			}
			l := append([]int{c}, best[n-c]...)
			slices.SortFunc(l, func(a, b int) int { return b - a })
			if best[n] == nil || better(l, best[n]) {
				best[n] = l
			}
		}
	}
	return best
}

// P2.3, P2.8: all sums are compared with those of another algorithm.
func TestDecomposeAll(t *testing.T) {
	for i, want := range bests() {
		l, e := Decompose(i * 945)
		if want == nil {
			if len(l) != 0 || e != api.ErrValue {
				t.Errorf("Decompose(%d) = %v, %d; there is no list", i*945, l, e)
			}
			continue
		}
		var got []int
		for _, v := range l {
			n, _ := Ticks(v)
			got = append(got, n/945)
		}
		if e != api.OK || !slices.Equal(got, want) {
			t.Fatalf("Decompose(%d) = %v, %d; want %v", i*945, got, e, want)
		}
		if n, e := Sum(l); n != i*945 || e != api.OK {
			t.Errorf("Sum of Decompose(%d) = %d, %d", i*945, n, e)
		}
	}
}

// P2.3
func TestDecompose(t *testing.T) {
	for _, c := range []struct {
		ticks int
		want  []api.Value
		e     api.Errno
	}{
		{0, nil, api.OK},
		{2419200, []api.Value{{}, {Log: 2}}, api.OK},
		{9 * 241920, []api.Value{{}, {Log: 3}}, api.OK},
		{MaxTicks, []api.Value{{Log: -1, Dots: 3}, {Log: 2}}, api.OK},
		{945, nil, api.ErrValue},
		{33 * 945, nil, api.ErrValue},
		{1, nil, api.ErrValue},
		{483841, nil, api.ErrValue},
		{MaxTicks - 1, nil, api.ErrValue},
		{-1, nil, api.ErrRange},
		{-945, nil, api.ErrRange},
		{MaxTicks + 1, nil, api.ErrRange},
		{MaxTicks + 945, nil, api.ErrRange},
		{math.MinInt, nil, api.ErrRange},
		{math.MaxInt, nil, api.ErrRange},
	} {
		if l, e := Decompose(c.ticks); !slices.Equal(l, c.want) || e != c.e {
			t.Errorf("Decompose(%d) = %v, %d; want %v, %d", c.ticks, l, e, c.want, c.e)
		}
	}
	for n := range 3000 {
		if l, e := Decompose(n * 7); n*7%945 != 0 && (len(l) != 0 || e != api.ErrValue) {
			t.Errorf("Decompose(%d) = %v, %d", n*7, l, e)
		}
	}
}

// P2.4
func TestSum(t *testing.T) {
	breves := slices.Repeat([]api.Value{{Log: -1, Dots: 3}}, MaxList)
	bad := api.Value{Log: 9}
	for i, c := range []struct {
		l     []api.Value
		ticks int
		e     api.Errno
	}{
		{nil, 0, api.OK},
		{[]api.Value{{Log: 2}, {Log: 3, Dots: 1}, {Log: 8}}, 483840 + 362880 + 7560, api.OK},
		{breves, 1024 * 7257600, api.OK},
		{append(slices.Clone(breves), api.Value{}), 0, api.ErrLong},
		{append(slices.Clone(breves), bad), 0, api.ErrLong},
		{append(slices.Clone(breves[1:]), bad), 0, api.ErrValue},
		{[]api.Value{bad}, 0, api.ErrValue},
		{[]api.Value{{Log: 2}, {Dots: 4}}, 0, api.ErrValue},
	} {
		if n, e := Sum(c.l); n != c.ticks || e != c.e {
			t.Errorf("%d: Sum = %d, %d; want %d, %d", i, n, e, c.ticks, c.e)
		}
	}
}

// P2.5
func TestWords(t *testing.T) {
	texts := strings.Fields("b 1 2 4 8 16 32 64 128 256")
	names := strings.Split("double whole,whole,half,quarter,eighth,16th,32nd,64th,128th,256th", ",")
	prefixes := []string{"", "dotted ", "double-dotted ", "triple-dotted "}
	for _, v := range grid() {
		text, e := Text(v)
		name, f := Name(v)
		if !valid(v) {
			if text != "" || e != api.ErrValue || name != "" || f != api.ErrValue {
				t.Errorf("%v: %q, %d, %q, %d", v, text, e, name, f)
			}
			continue
		}
		if text != texts[v.Log+1]+"..."[:v.Dots] || e != api.OK {
			t.Errorf("Text(%v) = %q, %d", v, text, e)
		}
		if name != prefixes[v.Dots]+names[v.Log+1] || f != api.OK {
			t.Errorf("Name(%v) = %q, %d", v, name, f)
		}
		if w, e := Parse(text); w != v || e != api.OK {
			t.Errorf("Parse(%q) = %v, %d", text, w, e)
		}
	}
}

// P2.5
func TestParseErrors(t *testing.T) {
	for _, c := range []struct {
		s string
		e api.Errno
	}{
		{"", api.ErrShort},
		{"256....", api.ErrLong},
		{"1234567", api.ErrLong},
		{".......", api.ErrLong},
		{strings.Repeat("4", 1000), api.ErrLong},
		{"4....", api.ErrSyntax},
		{"16....", api.ErrSyntax},
		{"......", api.ErrSyntax},
		{".", api.ErrSyntax},
		{".4", api.ErrSyntax},
		{"4.4", api.ErrSyntax},
		{"0", api.ErrSyntax},
		{"04", api.ErrSyntax},
		{"3", api.ErrSyntax},
		{"512", api.ErrSyntax},
		{"+4", api.ErrSyntax},
		{"-1", api.ErrSyntax},
		{"B", api.ErrSyntax},
		{"bb", api.ErrSyntax},
		{" 4", api.ErrSyntax},
		{"4 ", api.ErrSyntax},
		{"4\x00", api.ErrSyntax},
	} {
		if v, e := Parse(c.s); v != (api.Value{}) || e != c.e {
			t.Errorf("Parse(%q) = %v, %d; want %d", c.s, v, e, c.e)
		}
	}
}

// P2.6
func TestScale(t *testing.T) {
	for _, v := range grid() {
		for _, by := range []int{math.MinInt, math.MinInt + 1, -10, -9, -2, -1, 0, 1, 2, 9, 10, math.MaxInt} {
			w, e := Scale(v, by)
			want := api.Value{Log: v.Log - by, Dots: v.Dots}
			possible := valid(v) && by >= -9 && by <= 9 && valid(want)
			if possible && (w != want || e != api.OK) || !possible && (w != api.Value{} || e != api.ErrValue) {
				t.Errorf("Scale(%v, %d) = %v, %d", v, by, w, e)
			}
		}
	}
	// The sum would be valid, but the note value is not.
	if w, e := Scale(api.Value{Log: 9}, 3); w != (api.Value{}) || e != api.ErrValue {
		t.Errorf("Scale of a Log of 9 = %v, %d", w, e)
	}
}

// P2.7
func TestFlagsAndStems(t *testing.T) {
	flags := map[int]int{3: 1, 4: 2, 5: 3, 6: 4, 7: 5, 8: 6}
	for _, v := range grid() {
		want := 0
		if valid(v) {
			want = flags[v.Log]
		}
		if Flags(v) != want || Stemmed(v) != (valid(v) && v.Log >= 1) {
			t.Errorf("%v: Flags = %d, Stemmed = %v", v, Flags(v), Stemmed(v))
		}
	}
}

// P2.8
func TestConsequences(t *testing.T) {
	for _, v := range All() {
		n, _ := Ticks(v)
		if w, e := Find(n); w != v || e != api.OK {
			t.Errorf("Find(%d) = %v, %d", n, w, e)
		}
		if l, e := Decompose(n); !slices.Equal(l, []api.Value{v}) || e != api.OK {
			t.Errorf("Decompose(%d) = %v, %d", n, l, e)
		}
		if w, e := Scale(v, 1); e == api.OK {
			if m, _ := Ticks(w); m != 2*n {
				t.Errorf("Scale(%v, 1) lasts %d", v, m)
			}
		}
	}
	l := []api.Value{{Log: 2}, {Log: 3}}
	Sum(l)
	if !slices.Equal(l, []api.Value{{Log: 2}, {Log: 3}}) {
		t.Error("Sum changes its argument")
	}
}
