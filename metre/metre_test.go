package metre

import (
	"math"
	"slices"
	"strconv"
	"strings"
	"testing"

	"hemiola/api"
)

const (
	whole   = api.Whole
	half    = whole / 2
	quarter = whole / 4
	eighth  = whole / 8
	small   = 8 // how many of the ticks of paint make up Finest
)

func plain(count, unit int) api.Metre { return api.Metre{Count: count, Unit: unit} }

func inGroups(unit int, groups ...int) api.Metre {
	m := api.Metre{Unit: unit}
	for i, n := range groups {
		m.Groups[i] = n
		m.Count += n
	}
	return m
}

// some are time signatures of all sorts.
func some() []api.Metre {
	l := []api.Metre{
		inGroups(8, 2, 2, 3), inGroups(8, 3, 2, 2), inGroups(8, 2, 2, 2, 2), inGroups(4, 3, 3), inGroups(4, 2, 2, 2), inGroups(8, 3, 3, 2),
		inGroups(16, 1, 2, 3, 4, 5, 6), inGroups(2, 1, 1), inGroups(64, 60, 4), inGroups(4, 2, 2), inGroups(8, 1, 1, 1, 1, 1, 1), inGroups(32, 32, 32), inGroups(1, 1, 2),
	}
	for _, unit := range []int{1, 2, 4, 8, 16, 32, 64} {
		for _, count := range []int{1, 2, 3, 4, 5, 6, 7, 8, 9, 12, 15, 18, 63, 64} {
			l = append(l, plain(count, unit))
		}
	}
	return l
}

// wrong are time signatures with their errors.
func wrong() map[api.Metre]api.Errno {
	l := map[api.Metre]api.Errno{
		{}:                            api.ErrRange,
		{Groups: [6]int{-1}}:          api.ErrRange,
		plain(4, 0):                   api.ErrValue,
		inGroups(3, 2, -1):            api.ErrValue,
		inGroups(8, 3):                api.ErrMetre,
		inGroups(8, 3, 0, 3):          api.ErrMetre,
		inGroups(8, 0, 3, 3):          api.ErrMetre,
		inGroups(8, 0, 0, 0, 0, 0, 4): api.ErrMetre,
		inGroups(8, 3, -1):            api.ErrMetre,
		inGroups(8, 3, -1, 2):         api.ErrMetre,
		inGroups(8, -3, 7):            api.ErrMetre,
		{Count: 4, Unit: 4, Groups: [6]int{2, 1}}:                               api.ErrMetre,
		{Count: 4, Unit: 4, Groups: [6]int{2, 3}}:                               api.ErrMetre,
		{Count: 4, Unit: 4, Groups: [6]int{4, 4}}:                               api.ErrMetre,
		{Count: 4, Unit: 4, Groups: [6]int{math.MinInt, math.MinInt, 4}}:        api.ErrMetre,
		{Count: 4, Unit: 4, Groups: [6]int{math.MaxInt, math.MaxInt, 4, 2}}:     api.ErrMetre,
		{Count: 4, Unit: 4, Groups: [6]int{1 << 62, 1 << 62, 1 << 62, 1 << 62}}: api.ErrMetre,
	}
	for _, count := range []int{math.MinInt, -4, -1, 0, 65, 128, math.MaxInt} {
		for _, unit := range []int{4, 5, 0} {
			l[plain(count, unit)] = api.ErrRange
		}
	}
	for _, unit := range []int{math.MinInt, math.MinInt + 1, -4, -1, 0, 3, 5, 6, 7, 12, 48, 63, 65, 128, 256, math.MaxInt, 1 << 62} {
		l[plain(4, unit)] = api.ErrValue
	}
	return l
}

// P4.1
func TestCheck(t *testing.T) {
	for _, m := range some() {
		if e := Check(m); e != api.OK {
			t.Errorf("Check(%v) = %d", m, e)
		}
	}
	for m, want := range wrong() {
		if e := Check(m); e != want {
			t.Errorf("Check(%v) = %d; want %d", m, e, want)
		}
	}
	for count := -2; count <= 70; count++ {
		for unit := -70; unit <= 140; unit++ {
			want := api.OK
			if count < 1 || count > 64 {
				want = api.ErrRange
			} else if !slices.Contains([]int{1, 2, 4, 8, 16, 32, 64}, unit) {
				want = api.ErrValue
			}
			if e := Check(plain(count, unit)); e != want {
				t.Errorf("Check of %d/%d = %d; want %d", count, unit, e, want)
			}
		}
	}
}

// allowed reports whether groups are as the chapter requires for a Count of 6.
func allowed(groups [6]int) bool {
	positive, sum := 0, 0
	for positive < 6 && groups[positive] > 0 {
		sum += groups[positive]
		positive++
	}
	for _, n := range groups[positive:] {
		if n != 0 {
			return false
		}
	}
	return positive == 0 || positive >= 2 && sum == 6
}

// P4.1: all groups with small numbers.
func TestCheckGroups(t *testing.T) {
	for code := range 6 * 6 * 6 * 6 * 6 * 6 {
		m := plain(6, 8)
		for i, n := 0, code; i < 6; i, n = i+1, n/6 {
			m.Groups[i] = n%6 - 1
		}
		want := api.ErrMetre
		if allowed(m.Groups) {
			want = api.OK
		}
		if e := Check(m); e != want {
			t.Errorf("Check(%v) = %d; want %d", m, e, want)
		}
	}
}

// P4.1 and the contract: the error of Check comes first, and with it other results are zero values.
func TestCheckFirst(t *testing.T) {
	for m, want := range wrong() {
		for _, at := range []int{0, 1, Finest, -1, math.MaxInt, math.MinInt} {
			if n, e := Length(m); n != 0 || e != want {
				t.Errorf("Length(%v) = %d, %d", m, n, e)
			}
			if l, e := Groups(m); len(l) != 0 || e != want {
				t.Errorf("Groups(%v) = %v, %d", m, l, e)
			}
			if l, e := Beats(m); len(l) != 0 || e != want {
				t.Errorf("Beats(%v) = %v, %d", m, l, e)
			}
			if i, n, e := At(m, at); i != 0 || n != 0 || e != want {
				t.Errorf("At(%v, %d) = %d, %d, %d", m, at, i, n, e)
			}
			if n, e := Level(m, at); n != 0 || e != want {
				t.Errorf("Level(%v, %d) = %d, %d", m, at, n, e)
			}
			if n, e := Offset(m, at); n != 0 || e != want {
				t.Errorf("Offset(%v, %d) = %d, %d", m, at, n, e)
			}
			if l, e := Split(m, at, 0); len(l) != 0 || e != want {
				t.Errorf("Split(%v, %d, 0) = %v, %d", m, at, l, e)
			}
			if s, e := Text(m); s != "" || e != want {
				t.Errorf("Text(%v) = %q, %d", m, s, e)
			}
		}
	}
}

// P4.2
func TestGroups(t *testing.T) {
	for i, c := range []struct {
		m      api.Metre
		length int
		groups []int
	}{
		{plain(4, 4), whole, []int{1, 1, 1, 1}},
		{plain(3, 4), 3 * quarter, []int{1, 1, 1}},
		{plain(6, 4), 6 * quarter, []int{1, 1, 1, 1, 1, 1}},
		{plain(3, 8), 3 * eighth, []int{3}},
		{plain(6, 8), 6 * eighth, []int{3, 3}},
		{plain(9, 16), 9 * eighth / 2, []int{3, 3, 3}},
		{plain(4, 8), half, []int{1, 1, 1, 1}},
		{plain(7, 8), 7 * eighth, []int{1, 1, 1, 1, 1, 1, 1}},
		{plain(3, 64), 3 * 30240, []int{3}},
		{plain(63, 64), 63 * 30240, slices.Repeat([]int{3}, 21)},
		{plain(64, 64), whole, slices.Repeat([]int{1}, 64)},
		{plain(63, 4), 63 * quarter, slices.Repeat([]int{1}, 63)},
		{plain(64, 1), 64 * whole, slices.Repeat([]int{1}, 64)},
		{plain(1, 1), whole, []int{1}},
		{inGroups(8, 2, 2, 3), 1693440, []int{2, 2, 3}},
		{inGroups(8, 1, 2, 3), 6 * eighth, []int{1, 2, 3}},
		{inGroups(16, 6, 5, 4, 3, 2, 1), 21 * eighth / 2, []int{6, 5, 4, 3, 2, 1}},
	} {
		l, e := Groups(c.m)
		if !slices.Equal(l, c.groups) || e != api.OK {
			t.Errorf("%d: Groups = %v, %d; want %v", i, l, e, c.groups)
		}
		if n, e := Length(c.m); n != c.length || e != api.OK {
			t.Errorf("%d: Length = %d, %d; want %d", i, n, e, c.length)
		}
		var beats []int
		at := 0
		for _, n := range c.groups {
			beats = append(beats, at)
			at += n * whole / c.m.Unit
		}
		if l, e := Beats(c.m); !slices.Equal(l, beats) || e != api.OK {
			t.Errorf("%d: Beats = %v, %d; want %v", i, l, e, beats)
		}
	}
	if l, _ := Beats(inGroups(8, 2, 2, 3)); !slices.Equal(l, []int{0, 483840, 967680}) {
		t.Error(l)
	}
}

// P4.2 and the rules: results are newly allocated.
func TestNewMemory(t *testing.T) {
	for _, f := range []func(api.Metre) ([]int, api.Errno){Groups, Beats} {
		a, _ := f(plain(4, 4))
		want := slices.Clone(a)
		b, _ := f(plain(4, 4))
		a[0], a[3] = 99, 99
		c, _ := f(plain(4, 4))
		if !slices.Equal(b, want) || !slices.Equal(c, want) {
			t.Error(b, c)
		}
	}
}

// paint returns the levels of the multiples of Finest / small in a measure: those that apply first are painted last.
func paint(m api.Metre) []int {
	const step = Finest / small
	groups, _ := Groups(m)
	unit := whole / m.Unit
	levels := slices.Repeat([]int{None}, m.Count*unit/step)
	for k := 8; k >= 0; k-- {
		part := unit >> k
		for t := 0; part >= Finest && t < len(levels); t += part / step {
			levels[t] = Unit + k
		}
	}
	t := 0
	for _, n := range groups {
		levels[t] = Beat
		t += n * unit / step
	}
	if len(groups)%2 == 0 && slices.Min(groups) == slices.Max(groups) {
		levels[len(levels)/2] = Middle
	}
	levels[0] = Barline
	return levels
}

// P4.3
func TestLevelAndAt(t *testing.T) {
	const step = Finest / small
	for _, m := range some() {
		levels := paint(m)
		if len(levels) > 40000 {
			continue
		}
		beats, _ := Beats(m)
		length, _ := Length(m)
		last := api.MaxTime/length - 1
		for i, want := range levels {
			for _, measure := range []int{0, 1, last} {
				at := measure*length + i*step
				if n, e := Level(m, at); n != want || e != api.OK {
					t.Fatalf("Level(%v, %d) = %d, %d; want %d", m, at, n, e, want)
				}
				beat, offset, e := At(m, at)
				if beat < 0 || beat >= len(beats) || beats[beat]+offset != i*step || offset < 0 || beat+1 < len(beats) && i*step >= beats[beat+1] || e != api.OK {
					t.Fatalf("At(%v, %d) = %d, %d, %d", m, at, beat, offset, e)
				}
			}
			if n, e := Level(m, i*step+1); n != None || e != api.OK {
				t.Fatalf("Level(%v, %d) = %d, %d", m, i*step+1, n, e)
			}
		}
	}
}

// P4.3
func TestLevel(t *testing.T) {
	for _, c := range []struct {
		m         api.Metre
		at, level int
	}{
		{plain(4, 4), 0, Barline}, {plain(4, 4), 2 * quarter, Middle}, {plain(4, 4), quarter, Beat}, {plain(4, 4), 3 * quarter, Beat}, {plain(4, 4), eighth, Unit + 1}, {plain(4, 4), whole / 256, Unit + 6}, {plain(4, 4), whole / 512, None}, {plain(4, 4), 1, None}, {plain(4, 4), whole, Barline}, {plain(4, 4), whole + half, Middle},
		{plain(6, 8), 725760, Middle}, {plain(6, 8), eighth, Unit}, {plain(3, 4), 3 * eighth, Unit + 1}, {plain(9, 8), 3 * eighth, Beat}, {plain(2, 4), quarter, Middle}, {plain(1, 2), quarter, Unit + 1}, {plain(3, 8), eighth, Unit},
		{inGroups(8, 2, 2, 3), 4 * eighth, Beat}, {inGroups(8, 2, 2, 3), 5 * eighth, Unit}, {inGroups(4, 3, 3), 3 * quarter, Middle}, {inGroups(4, 2, 4), 2 * quarter, Beat}, {inGroups(4, 2, 4), 3 * quarter, Unit}, {inGroups(8, 2, 1, 2, 1), 3 * eighth, Beat},
		{plain(1, 1), whole / 256, 11}, {plain(1, 1), whole / 512, None}, {plain(2, 64), 7560, Unit + 2}, {plain(2, 64), 3780, None}, {plain(2, 64), 30240, Middle},
		{plain(4, 4), api.MaxTime, None},
	} {
		if n, e := Level(c.m, c.at); n != c.level || e != api.OK {
			t.Errorf("Level(%v, %d) = %d, %d; want %d", c.m, c.at, n, e, c.level)
		}
	}
	for _, at := range []int{math.MinInt, -whole, -1, api.MaxTime + 1, math.MaxInt} {
		if n, e := Level(plain(4, 4), at); n != 0 || e != api.ErrRange {
			t.Errorf("Level of %d = %d, %d", at, n, e)
		}
		if i, n, e := At(plain(4, 4), at); i != 0 || n != 0 || e != api.ErrRange {
			t.Errorf("At of %d = %d, %d, %d", at, i, n, e)
		}
	}
}

// P4.3
func TestAt(t *testing.T) {
	for _, c := range []struct {
		m                api.Metre
		at, beat, offset int
	}{
		{plain(4, 4), 0, 0, 0}, {plain(4, 4), quarter - 1, 0, quarter - 1}, {plain(4, 4), quarter, 1, 0}, {plain(4, 4), whole - 1, 3, quarter - 1}, {plain(4, 4), whole, 0, 0}, {plain(4, 4), whole + half + 5, 2, 5},
		{plain(6, 8), 2 * eighth, 0, 2 * eighth}, {plain(6, 8), 5 * eighth, 1, 2 * eighth}, {inGroups(8, 2, 2, 3), 6 * eighth, 2, 2 * eighth}, {plain(3, 8), 3*eighth - 1, 0, 3*eighth - 1},
		{plain(64, 1), 64*whole - 1, 63, whole - 1}, {plain(1, 1), api.MaxTime, 0, api.MaxTime % whole},
	} {
		if beat, offset, e := At(c.m, c.at); beat != c.beat || offset != c.offset || e != api.OK {
			t.Errorf("At(%v, %d) = %d, %d, %d; want %d, %d", c.m, c.at, beat, offset, e, c.beat, c.offset)
		}
	}
}

// P4.4
func TestOffset(t *testing.T) {
	for _, c := range []struct {
		m              api.Metre
		length, offset int
		e              api.Errno
	}{
		{plain(4, 4), quarter, 3 * quarter, api.OK}, {plain(4, 4), 1, whole - 1, api.OK}, {plain(4, 4), whole - 1, 1, api.OK}, {plain(4, 4), whole, 0, api.OK}, {plain(4, 4), whole + 1, 0, api.OK}, {plain(4, 4), 5 * whole, 0, api.OK}, {plain(4, 4), api.MaxTime, 0, api.OK}, {inGroups(8, 2, 2, 3), 3 * eighth, 4 * eighth, api.OK},
		{plain(4, 4), 0, 0, api.ErrRange}, {plain(4, 4), -1, 0, api.ErrRange}, {plain(4, 4), api.MaxTime + 1, 0, api.ErrRange}, {plain(4, 4), math.MinInt, 0, api.ErrRange}, {plain(4, 4), math.MaxInt, 0, api.ErrRange},
	} {
		if n, e := Offset(c.m, c.length); n != c.offset || e != c.e {
			t.Errorf("Offset(%v, %d) = %d, %d; want %d, %d", c.m, c.length, n, e, c.offset, c.e)
		}
	}
}

func log(n int) api.Value          { return api.Value{Log: n} }
func dotted(n, dots int) api.Value { return api.Value{Log: n, Dots: dots} }

// P4.5
func TestSplit(t *testing.T) {
	c44, c34, c68, c78 := plain(4, 4), plain(3, 4), plain(6, 8), inGroups(8, 2, 2, 3)
	for i, c := range []struct {
		m        api.Metre
		from, to int
		want     []api.Value
	}{
		{c44, 0, 0, nil}, {c44, whole, whole, nil},
		{c44, 0, 3 * quarter, []api.Value{dotted(1, 1)}},
		{c44, quarter, whole, []api.Value{log(2), log(1)}},
		{c44, 0, whole, []api.Value{log(0)}},
		{c44, quarter, 3 * quarter, []api.Value{log(2), log(2)}},
		{c44, eighth, 3 * eighth, []api.Value{log(3), log(3)}},
		{c44, half, half + 3*eighth, []api.Value{dotted(2, 1)}},
		{c44, eighth, half, []api.Value{log(3), log(2)}},
		{c44, 0, 7 * eighth, []api.Value{dotted(1, 2)}},
		{c44, 0, 15 * eighth / 2, []api.Value{log(1), dotted(2, 2)}}, // three dots are not simple
		{c44, 0, 5 * eighth, []api.Value{log(1), log(3)}},
		{c44, 0, Finest, []api.Value{log(8)}}, {c44, Finest, 2 * Finest, []api.Value{log(8)}},
		{c44, Finest, 3 * Finest, []api.Value{log(8), log(8)}},
		{c44, 0, 2 * whole, []api.Value{log(-1)}},           // from barline to barline
		{c44, whole, 4 * whole, []api.Value{dotted(-1, 1)}}, // from a barline over others
		{c44, 0, 7 * half, []api.Value{dotted(-1, 2)}},
		{c44, half, 5 * half, []api.Value{log(1), dotted(0, 1)}}, // the rest begins at a barline
		{c44, half, 3*whole + quarter, []api.Value{log(1), log(0), log(0), log(2)}},
		{c44, 3 * quarter, 5 * quarter, []api.Value{log(2), log(2)}},
		{c44, 0, MaxSpan, []api.Value{log(0), log(0), log(0), log(0), log(0), dotted(-1, 1)}},
		{c34, quarter, 3 * quarter, []api.Value{log(1)}}, {c34, 0, half, []api.Value{log(1)}},
		{c34, 0, 8 * quarter, []api.Value{dotted(1, 1), dotted(1, 1), log(1)}},
		{c68, 0, half, []api.Value{dotted(2, 1), log(3)}},
		{c68, eighth, 5 * eighth, []api.Value{log(2), log(2)}},
		{c68, 2 * eighth, 6 * eighth, []api.Value{log(3), dotted(2, 1)}},
		{c68, 0, 6 * eighth, []api.Value{dotted(1, 1)}},
		{c78, 0, 7 * eighth, []api.Value{dotted(1, 2)}},
		{c78, 2 * eighth, 7 * eighth, []api.Value{log(2), dotted(2, 1)}},
		{c78, 0, 4 * eighth, []api.Value{log(1)}},
		{c78, 3 * eighth, 5 * eighth, []api.Value{log(3), log(3)}},
		{plain(1, 64), 0, whole, []api.Value{log(0)}},
		{plain(1, 64), Finest, 2*30240 + Finest, []api.Value{log(8), log(7), log(6), log(8)}},
		{c44, api.MaxTime / whole * whole, api.MaxTime/whole*whole + quarter, []api.Value{log(2)}},
	} {
		if l, e := Split(c.m, c.from, c.to); !slices.Equal(l, c.want) || e != api.OK {
			t.Errorf("%d: Split(%v, %d, %d) = %v, %d; want %v", i, c.m, c.from, c.to, l, e, c.want)
		}
	}
}

// P4.5
func TestSplitErrors(t *testing.T) {
	for _, c := range []struct {
		from, to int
		e        api.Errno
	}{
		{-1, 0, api.ErrRange}, {-Finest, Finest, api.ErrRange}, {Finest, 0, api.ErrRange}, {1, 0, api.ErrRange}, {0, api.MaxTime + 1, api.ErrRange}, {api.MaxTime + 1, api.MaxTime + 1, api.ErrRange}, {math.MinInt, math.MaxInt, api.ErrRange}, {math.MinInt, 0, api.ErrRange}, {0, math.MaxInt, api.ErrRange}, {math.MaxInt, math.MinInt, api.ErrRange},
		{1, Finest, api.ErrTick}, {0, Finest + 1, api.ErrTick}, {1, 1, api.ErrTick}, {0, api.MaxTime, api.ErrTick}, {0, MaxSpan + 1, api.ErrTick}, {1, MaxSpan + Finest, api.ErrTick}, {945, 1890, api.ErrTick},
		{0, MaxSpan + Finest, api.ErrLong}, {Finest, MaxSpan + 2*Finest, api.ErrLong}, {0, api.MaxTime / Finest * Finest, api.ErrLong}, {Finest, MaxSpan + Finest, api.OK},
	} {
		l, e := Split(plain(4, 4), c.from, c.to)
		if e != c.e || (e != api.OK) != (len(l) == 0) {
			t.Errorf("Split from %d to %d = %v, %d; want %d", c.from, c.to, l, e, c.e)
		}
	}
}

// model divides durations by the definition, with painted levels and ticks in multiples of Finest.
type model struct {
	levels []int
	values map[int]api.Value
}

func modelOf(m api.Metre) model {
	x := model{values: map[int]api.Value{}}
	for i, n := range paint(m) {
		if i%small == 0 {
			x.levels = append(x.levels, n)
		}
	}
	for log := -1; log <= 8; log++ {
		for dots, quarters := range []int{4, 6, 7} { // quarters of the value without dots
			if n := 512 >> (log + 1) * quarters; n%4 == 0 {
				x.values[n/4] = api.Value{Log: log, Dots: dots}
			}
		}
	}
	return x
}

func (x model) level(t int) int { return x.levels[t%len(x.levels)] }

func (x model) split(from, to int) []api.Value {
	if from == to {
		return nil
	}
	v, simple := x.values[to-from]
	var inner []int
	for t := from + 1; t < to; t++ {
		inner = append(inner, x.level(t))
	}
	for _, n := range inner {
		if n < x.level(from) || v.Dots == 0 && n < x.level(to) {
			simple = false
		}
	}
	if simple {
		return []api.Value{v}
	}
	at := from + 1 + slices.Index(inner, slices.Min(inner))
	return append(x.split(from, at), x.split(at, to)...)
}

// P4.5, P4.7: durations in all sorts of time signatures, compared with the definition and with the consequences.
func TestSplitAll(t *testing.T) {
	for k, m := range some() {
		x := modelOf(m)
		size := len(x.levels)
		for i := range 400 {
			from := (i*i*7 + i*k) % (2*size + 3)
			n := 1 + (i*37+k)%300
			if i%3 == 0 { // also durations between stronger ticks
				from, n = from/16*16, (n+15)/16*16
			}
			if i%50 == 0 {
				n = 2048
			}
			compareSplit(t, m, x, from, from+n)
		}
	}
	for _, m := range []api.Metre{plain(4, 4), plain(3, 4), plain(6, 8), inGroups(8, 2, 2, 3), plain(5, 16)} {
		x := modelOf(m)
		for from := 0; from <= 2*len(x.levels); from += 8 {
			for to := from; to <= from+512; to += 8 {
				compareSplit(t, m, x, from, to)
			}
		}
	}
}

func compareSplit(t *testing.T, m api.Metre, x model, from, to int) {
	t.Helper()
	l, e := Split(m, from*Finest, to*Finest)
	if want := x.split(from, to); !slices.Equal(l, want) || e != api.OK {
		t.Fatalf("Split(%v, %d, %d) = %v, %d; want %v", m, from, to, l, e, want)
	}
	at := from
	for i, v := range l {
		n := 0
		for d := range v.Dots + 1 {
			n += 512 >> (v.Log + 1) >> d
		}
		for s := at + 1; s < at+n; s++ {
			if x.level(s) == Barline && x.level(at) != Barline {
				t.Fatalf("Split(%v, %d, %d) = %v crosses the barline at %d", m, from, to, l, s)
			}
		}
		at += n
		if i == 0 {
			if rest, _ := Split(m, at*Finest, to*Finest); !slices.Equal(rest, l[1:]) {
				t.Fatalf("Split(%v, %d, %d) = %v; from %d on %v", m, from, to, l, at, rest)
			}
		}
	}
	if at != to {
		t.Fatalf("Split(%v, %d, %d) = %v ends at %d", m, from, to, l, at)
	}
}

// P4.6, P4.7
func TestText(t *testing.T) {
	for s, m := range map[string]api.Metre{
		"4/4": plain(4, 4), "6/8": plain(6, 8), "64/64": plain(64, 64), "1/1": plain(1, 1), "10/32": plain(10, 32), "2+2+3/8": inGroups(8, 2, 2, 3), "1+1/2": inGroups(2, 1, 1), "11+11+11+11+10+10/64": inGroups(64, 11, 11, 11, 11, 10, 10),
	} {
		if got, e := Text(m); got != s || e != api.OK {
			t.Errorf("Text(%v) = %q, %d; want %q", m, got, e, s)
		}
		if got, e := Parse(s); got != m || e != api.OK {
			t.Errorf("Parse(%q) = %v, %d", s, got, e)
		}
	}
	for _, m := range some() {
		s, e := Text(m)
		if n, f := Parse(s); n != m || e != api.OK || f != api.OK {
			t.Errorf("%v has the text %q of %v", m, s, n)
		}
	}
}

// P4.6
func TestParseErrors(t *testing.T) {
	for _, s := range strings.Split(",/,4,4/,/4,4/4/4,0/4,65/4,4/0,4/3,4/128,04/4,4/04,+4/4,4/+4,-4/4,4/-4, 4/4,4/4 ,4 /4,4+/4,+4+4/4,4++4/8,2+0+2/4,0+4/4,4+0/4,2+-1+3/4,2+2+3/12,60+5/4,1+1+1+1+1+1+1/8,4.0/4,0x4/4,4_0/4,a/b,2+2,2+2/4+4,２/4,2/4\x00", ",") {
		if m, e := Parse(s); m != (api.Metre{}) || e != api.ErrSyntax {
			t.Errorf("Parse(%q) = %v, %d", s, m, e)
		}
	}
	for _, c := range []struct {
		s string
		e api.Errno
	}{
		{strings.Repeat("1", 32), api.ErrSyntax}, {strings.Repeat("1", 33), api.ErrLong}, {"4/4" + strings.Repeat(" ", 29), api.ErrSyntax}, {"4/4" + strings.Repeat(" ", 30), api.ErrLong}, {strings.Repeat("+", 32), api.ErrSyntax}, {strings.Repeat("2+", 1000) + "2/4", api.ErrLong}, {"9223372036854775807+5/4", api.ErrSyntax}, {"9223372036854775808/4", api.ErrSyntax},
	} {
		if m, e := Parse(c.s); m != (api.Metre{}) || e != c.e {
			t.Errorf("Parse(%q) = %v, %d; want %d", c.s, m, e, c.e)
		}
	}
}

// P4.6: every short text is that of a time signature or a syntax error.
func TestParseAll(t *testing.T) {
	texts := map[string]api.Metre{}
	for count := 1; count <= 64; count++ {
		for _, unit := range []int{1, 2, 4, 8, 16, 32, 64} {
			m := plain(count, unit)
			texts[strconv.Itoa(count)+"/"+strconv.Itoa(unit)] = m
			for a := 1; a < count; a++ {
				m.Groups = [6]int{a, count - a}
				texts[strconv.Itoa(a)+"+"+strconv.Itoa(count-a)+"/"+strconv.Itoa(unit)] = m
			}
		}
	}
	short := []string{""}
	for range 5 {
		for _, s := range short {
			for _, c := range "01246/+" {
				short = append(short, s+string(c))
			}
		}
		slices.Sort(short)
		short = slices.Compact(short)
	}
	for _, s := range short {
		m, e := Parse(s)
		if want, ok := texts[s]; m != want || ok != (e == api.OK) || !ok && e != api.ErrSyntax {
			t.Errorf("Parse(%q) = %v, %d; want %v", s, m, e, want)
		}
	}
}

// P4.7
func TestBeatsIncrease(t *testing.T) {
	for _, m := range some() {
		beats, _ := Beats(m)
		groups, _ := Groups(m)
		length, _ := Length(m)
		last := len(beats) - 1
		if beats[0] != 0 || beats[last]+groups[last]*(whole/m.Unit) != length || len(groups) != len(beats) {
			t.Errorf("%v: %v, %v, %d", m, beats, groups, length)
		}
		for i := range last {
			if beats[i] >= beats[i+1] {
				t.Errorf("%v: %v", m, beats)
			}
		}
	}
}
