package spanner

import (
	"math"
	"math/rand"
	"slices"
	"strings"
	"testing"

	"hemiola/api"
)

// level is the level of a slur by its definition.
func level(l []Span, s Span) int {
	lies := func(a, b Span) bool { return !precedes(a.From, b.From) && !precedes(b.To, a.To) }
	greatest := 0
	for _, x := range l {
		group := x.Kind == 1 && x.From.Staff == s.From.Staff && x.From.Voice == s.From.Voice
		if group && lies(x, s) && !lies(s, x) {
			greatest = max(greatest, 1+level(l, x))
		}
	}
	return greatest
}

// P14.3
func TestLevels(t *testing.T) {
	slur := func(from, to int) Span { return sp(api.Slur, from, 0, to, 0) }
	for _, c := range []struct {
		l    []Span
		want []int
	}{
		{nil, nil},
		{[]Span{slur(0, 1)}, []int{0}},
		{[]Span{slur(0, 9), slur(1, 4), slur(2, 3), slur(5, 8)}, []int{2, 1, 0, 0}},
		{[]Span{slur(2, 3), slur(5, 8), slur(1, 4), slur(0, 9)}, []int{0, 0, 1, 2}},
		// common ends
		{[]Span{slur(0, 1), slur(0, 2), slur(0, 3)}, []int{0, 1, 2}},
		{[]Span{slur(0, 3), slur(1, 3), slur(2, 3)}, []int{2, 1, 0}},
		{[]Span{slur(0, 2), slur(2, 3), slur(0, 3)}, []int{0, 0, 1}},
		// the same ends are not nested, but both are in others
		{[]Span{slur(1, 2), slur(1, 2), slur(0, 2), slur(0, 2), slur(0, 3)}, []int{0, 0, 1, 1, 2}},
		// slurs that cross are not nested
		{[]Span{slur(0, 4), slur(2, 6), slur(0, 6)}, []int{0, 0, 1}},
		// the longest chain counts, not the number of slurs
		{[]Span{slur(0, 9), slur(0, 1), slur(1, 2), slur(2, 3), slur(3, 7), slur(4, 7), slur(5, 6)}, []int{3, 0, 0, 0, 2, 1, 0}},
		// other kinds, staves and voices
		{[]Span{slur(0, 9), sp(api.TrillLine, 1, 0, 2, 0), sp(api.Crescendo, 0, 0, 9, 0), in(slur(1, 2), 1, 0), in(slur(1, 2), 0, 1)}, []int{0, 0, 0, 0, 0}},
		{[]Span{in(slur(0, 9), 1, 1), in(slur(1, 2), 1, 1), slur(0, 9), in(slur(1, 2), 1, 0), in(slur(0, 2), 1, 0)}, []int{1, 0, 0, 0, 1}},
		{[]Span{{Kind: 8}, {}, {Kind: -1}}, []int{0, 0, 0}},
		// slurs that are not proper
		{[]Span{slur(3, 2), slur(3, 3), slur(2, 3)}, []int{0, 1, 2}},
	} {
		before := slices.Clone(c.l)
		if l := Levels(c.l); !slices.Equal(l, c.want) || !slices.Equal(before, c.l) {
			t.Errorf("Levels(%v) = %v; want %v", before, l, c.want)
		}
	}
}

// P14.3: staff and voice of a group are those of From.
func TestLevelsOfFrom(t *testing.T) {
	outer, inner := sp(api.Slur, 0, 0, 9, 0), sp(api.Slur, 1, 0, 2, 0)
	inner.To.Staff, outer.To.Voice = 3, 1
	if l := Levels([]Span{outer, inner}); !slices.Equal(l, []int{1, 0}) {
		t.Error(l)
	}
	inner.From.Staff, inner.To.Staff = 3, 0
	if l := Levels([]Span{outer, inner}); !slices.Equal(l, []int{0, 0}) {
		t.Error(l)
	}
}

// P14.3
func TestLevelsModel(t *testing.T) {
	r := rand.New(rand.NewSource(4))
	deepest := 0
	for range 20000 {
		var l []Span
		for range r.Intn(14) {
			s := anySpan(r)
			if r.Intn(4) > 0 {
				s.Kind = api.Slur
			}
			if r.Intn(2) == 0 {
				s = in(s, 0, 0)
			}
			l = append(l, s)
		}
		for i, n := range Levels(l) {
			want := 0
			if l[i].Kind == api.Slur {
				want = level(l, l[i])
			}
			if n != want {
				t.Fatalf("Levels(%v)[%d] = %d; want %d", l, i, n, want)
			}
			deepest = max(deepest, n)
		}
	}
	if deepest < 5 {
		t.Error(deepest)
	}
}

// P14.3, P1: long lists.
func TestLevelsLong(t *testing.T) {
	const n = 200000
	var l []Span
	for i := range n {
		l = append(l, sp(api.Slur, 0, n-i, 1, n+i))
	}
	for i, k := range Levels(l) {
		if k != i {
			t.Fatalf("the level of slur %d is %d", i, k)
		}
	}
}

// P14.4
func TestShift(t *testing.T) {
	up, down := in(sp(api.OctaveUp, 1, 4, 3, 2), 2, 1), in(sp(api.OctaveDown, 2, 0, 4, 0), 2, 0)
	at := func(measure, tick int) Place { return Place{measure, tick, 2, 0} }
	for _, c := range []struct {
		l    []Span
		p    Place
		want int
	}{
		{nil, at(2, 0), 0},
		{[]Span{up}, at(1, 4), -7}, {[]Span{up}, at(3, 2), -7}, {[]Span{up}, at(2, 9), -7}, {[]Span{up}, at(1, 3), 0}, {[]Span{up}, at(3, 3), 0}, {[]Span{up}, at(0, 4), 0}, {[]Span{up}, at(4, 0), 0},
		{[]Span{down}, at(2, 0), 7}, {[]Span{down}, at(4, 0), 7}, {[]Span{down}, at(1, 9), 0},
		{[]Span{up}, Place{2, 0, 2, 1}, -7}, {[]Span{up}, Place{2, 0, 1, 0}, 0}, {[]Span{up}, Place{2, 0, 3, 1}, 0},
		{[]Span{up, down}, at(2, 5), -7}, {[]Span{down, up}, at(2, 5), 7}, {[]Span{up, down}, at(4, 0), 7},
		{[]Span{in(sp(api.Slur, 0, 0, 9, 0), 2, 0), in(sp(api.Pedal, 0, 0, 9, 0), 2, 0), in(sp(api.TrillLine, 0, 0, 9, 0), 2, 0), in(sp(8, 0, 0, 9, 0), 2, 0), in(sp(3, 0, 0, 9, 0), 2, 0)}, at(2, 5), 0},
		{[]Span{in(sp(api.Slur, 0, 0, 9, 0), 2, 0), down}, at(2, 5), 7},
		{[]Span{in(sp(api.OctaveUp, 4, 0, 1, 0), 2, 0)}, at(2, 0), 0},
	} {
		if n := Shift(c.l, c.p); n != c.want {
			t.Errorf("Shift(%v, %v) = %d; want %d", c.l, c.p, n, c.want)
		}
	}
}

// P14.4
func TestCovering(t *testing.T) {
	l := []Span{sp(1, 0, 0, 4, 0), sp(2, 0, 0, 4, 0), in(sp(1, 0, 0, 4, 0), 0, 1), sp(1, 2, 5, 3, 0), in(sp(2, 1, 0, 2, 5), 0, 1), in(sp(2, 0, 0, 4, 0), 1, 0), sp(7, 0, 0, 4, 0), in(sp(7, 0, 0, 4, 0), 0, 1), sp(99, 0, 0, 4, 0), sp(0, 3, 0, 4, 0)}
	for _, c := range []struct {
		kind int
		p    Place
		want []int
	}{
		{1, Place{2, 5, 0, 0}, []int{0, 3}}, {1, Place{2, 4, 0, 0}, []int{0}}, {1, Place{2, 5, 0, 1}, []int{2}}, {1, Place{3, 0, 0, 0}, []int{0, 3}}, {1, Place{3, 1, 0, 0}, []int{0}}, {1, Place{4, 1, 0, 0}, nil}, {1, Place{2, 5, 1, 0}, nil},
		{2, Place{2, 5, 0, 0}, []int{1, 4}}, {2, Place{2, 5, 0, 1}, []int{1, 4}}, {2, Place{2, 6, 0, 1}, []int{1}}, {2, Place{2, 5, 1, 7}, []int{5}},
		{7, Place{1, 0, 0, 0}, []int{6}}, {7, Place{1, 0, 0, 1}, []int{7}}, {3, Place{1, 0, 0, 0}, nil},
		{99, Place{1, 0, 0, 5}, []int{8}}, {0, Place{3, 5, 0, 0}, []int{9}}, {-1, Place{3, 5, 0, 0}, nil},
		{1, Place{-1, 0, 0, 0}, nil}, {1, Place{math.MaxInt, math.MaxInt, 0, 0}, nil},
	} {
		if got := Covering(l, c.kind, c.p); !slices.Equal(got, c.want) {
			t.Errorf("Covering(%d, %v) = %v; want %v", c.kind, c.p, got, c.want)
		}
	}
	if got := Covering(nil, 1, Place{}); len(got) != 0 {
		t.Error(got)
	}
}

// P14.4
func TestCrossing(t *testing.T) {
	l := []Span{sp(1, 0, 0, 4, 0), in(sp(2, 2, 7, 3, 0), 5, 1), sp(6, 3, 0, 3, 1), sp(0, 4, 0, 4, 0), sp(1, 5, 0, 3, 0)}
	for measure, want := range map[int][]int{math.MinInt: nil, -1: nil, 0: {0}, 1: {0}, 2: {0, 1}, 3: {0, 1, 2}, 4: {0, 3}, 5: nil, math.MaxInt: nil} {
		if got := Crossing(l, measure); !slices.Equal(got, want) {
			t.Errorf("Crossing(%d) = %v; want %v", measure, got, want)
		}
	}
	if got := Crossing(nil, 0); len(got) != 0 {
		t.Error(got)
	}
}

// P14.4: all spans, proper or not.
func TestPlacesModel(t *testing.T) {
	r := rand.New(rand.NewSource(5))
	for range 20000 {
		var l []Span
		for range r.Intn(10) {
			l = append(l, anySpan(r))
		}
		p, measure, kind := anyPlace(r), anyPlace(r).Measure, anySpan(r).Kind
		shift := 0
		var covering, crossing []int
		for i, s := range l {
			voice := s.Kind == 1 || s.Kind == 7
			covers := s.From.Staff == p.Staff && (!voice || s.From.Voice == p.Voice) && !precedes(p, s.From) && !precedes(s.To, p)
			if covers && s.Kind == kind {
				covering = append(covering, i)
			}
			if s.From.Measure <= measure && s.To.Measure >= measure {
				crossing = append(crossing, i)
			}
			if covers && shift == 0 {
				shift = map[int]int{4: -7, 5: 7}[s.Kind]
			}
		}
		before := slices.Clone(l)
		if n := Shift(l, p); n != shift {
			t.Fatalf("Shift(%v, %v) = %d; want %d", l, p, n, shift)
		}
		if got := Covering(l, kind, p); !slices.Equal(got, covering) {
			t.Fatalf("Covering(%v, %d, %v) = %v; want %v", l, kind, p, got, covering)
		}
		if got := Crossing(l, measure); !slices.Equal(got, crossing) {
			t.Fatalf("Crossing(%v, %d) = %v; want %v", l, measure, got, crossing)
		}
		if !slices.Equal(before, l) {
			t.Fatalf("%v was changed", before)
		}
	}
}

// P14.5
func TestDivide(t *testing.T) {
	for _, c := range []struct {
		s       Span
		systems []int
		want    []Piece
	}{
		{sp(1, 1, 0, 5, 0), []int{0, 2, 5}, []Piece{{0, 1, 1, true, false}, {1, 2, 4, false, false}, {2, 5, 5, false, true}}},
		{sp(1, 1, 0, 1, 1), []int{0, 2, 5}, []Piece{{0, 1, 1, true, true}}},
		{sp(1, 0, 0, 1, 0), []int{0, 2, 5}, []Piece{{0, 0, 1, true, true}}},
		{sp(1, 2, 0, 4, 9), []int{0, 2, 5}, []Piece{{1, 2, 4, true, true}}},
		{sp(1, 5, 0, 1023, 0), []int{0, 2, 5}, []Piece{{2, 5, 1023, true, true}}},
		{sp(6, 3, 0, 9, 0), []int{3}, []Piece{{0, 3, 9, true, true}}},
		{sp(6, 3, 0, 9, 0), []int{-7, 3, 9, 2000}, []Piece{{1, 3, 8, true, false}, {2, 9, 9, false, true}}},
		{sp(6, 3, 0, 4, 0), []int{math.MinInt, math.MaxInt}, []Piece{{0, 3, 4, true, true}}},
		{sp(6, 3, 0, 4, 0), []int{math.MinInt, math.MinInt + 1, -1, 4}, []Piece{{2, 3, 3, true, false}, {3, 4, 4, false, true}}},
		{sp(2, 1023, 0, 1023, 1), []int{0, 1023}, []Piece{{1, 1023, 1023, true, true}}},
	} {
		before := slices.Clone(c.systems)
		if l, e := Divide(c.s, c.systems); !slices.Equal(l, c.want) || e != api.OK || !slices.Equal(before, c.systems) {
			t.Errorf("Divide(%v, %v) = %v, %d; want %v", c.s, before, l, e, c.want)
		}
	}
}

// P14.5
func TestDivideErrors(t *testing.T) {
	s := sp(1, 3, 0, 5, 0)
	for _, c := range []struct {
		s       Span
		systems []int
		e       api.Errno
	}{
		{s, nil, api.ErrShort}, {s, []int{}, api.ErrShort},
		{s, []int{0, 0}, api.ErrOrder}, {s, []int{0, 2, 1}, api.ErrOrder}, {s, []int{3, 4, 5, 5}, api.ErrOrder}, {s, []int{4, 4}, api.ErrOrder}, {s, []int{9, 4}, api.ErrOrder}, {s, []int{math.MaxInt, math.MinInt}, api.ErrOrder},
		{s, []int{4}, api.ErrRange}, {s, []int{4, 5}, api.ErrRange}, {s, []int{math.MaxInt}, api.ErrRange}, {s, []int{3}, api.OK},
		{Span{}, nil, api.ErrKind}, {in(s, 128, 0), []int{0}, api.ErrRange}, {sp(1, 5, 0, 3, 0), []int{2, 1}, api.ErrOrder}, {sp(1, 5, 0, 3, 0), []int{9}, api.ErrOrder}, {sp(9, 3, 0, 5, 0), []int{1, 1}, api.ErrKind},
		{Span{Kind: 1, To: Place{Measure: 1, Voice: 1}}, nil, api.ErrSpanner}, {Span{Kind: 2, To: Place{Measure: 1, Voice: 1}}, nil, api.ErrShort},
	} {
		if l, e := Divide(c.s, c.systems); e != c.e || e != api.OK && len(l) != 0 {
			t.Errorf("Divide(%v, %v) = %v, %d; want %d", c.s, c.systems, l, e, c.e)
		}
	}
}

// P14.5, P14.7: measure by measure.
func TestDivideModel(t *testing.T) {
	r := rand.New(rand.NewSource(6))
	for range 20000 {
		s := sp(1+r.Intn(7), r.Intn(20), 0, r.Intn(20), 1)
		if s.From.Measure > s.To.Measure {
			s.From.Measure, s.To.Measure = s.To.Measure, s.From.Measure
		}
		systems := []int{r.Intn(s.From.Measure+3) - 2}
		for range r.Intn(8) {
			systems = append(systems, systems[len(systems)-1]+1+r.Intn(5))
		}
		l, e := Divide(s, systems)
		if systems[0] > s.From.Measure {
			if e != api.ErrRange {
				t.Fatalf("Divide(%v, %v) = %v, %d", s, systems, l, e)
			}
			continue
		}
		var want []Piece
		for n := s.From.Measure; n <= s.To.Measure; n++ {
			k := 0
			for i, first := range systems {
				if first <= n {
					k = i
				}
			}
			if len(want) == 0 || want[len(want)-1].System != k {
				want = append(want, Piece{System: k, First: n})
			}
			p := &want[len(want)-1]
			p.Last = n
			p.Begins = p.Begins || n == s.From.Measure
			p.Ends = p.Ends || n == s.To.Measure
		}
		if !slices.Equal(l, want) || e != api.OK {
			t.Fatalf("Divide(%v, %v) = %v, %d; want %v", s, systems, l, e, want)
		}
	}
}

// P14.6
func TestNames(t *testing.T) {
	for i, name := range []string{"slur", "crescendo", "diminuendo", "8va", "8vb", "pedal", "trill"} {
		if s := Name(i + 1); s != name {
			t.Errorf("Name(%d) = %q", i+1, s)
		}
		if n, e := Parse(name); n != i+1 || e != api.OK {
			t.Errorf("Parse(%q) = %d, %d", name, n, e)
		}
	}
	for _, kind := range append([]int{-7, 8, 9, 100}, extreme...) {
		if s := Name(kind); s != "" && kind != 1 {
			t.Errorf("Name(%d) = %q", kind, s)
		}
	}
	for _, s := range []string{"", " ", "Slur", "slurs", "slu", " slur", "slur ", "slur\x00", "8VA", "8", "8v", "15ma", "cresc", "decrescendo", "hairpin", "trill line", "1", "\xff", strings.Repeat("pedal", 1000)} {
		if n, e := Parse(s); n != 0 || e != api.ErrUnknown {
			t.Errorf("Parse(%q) = %d, %d", s, n, e)
		}
	}
}

// P14.7: results are newly allocated.
func TestMemory(t *testing.T) {
	l := []Span{sp(1, 0, 0, 4, 0), sp(1, 1, 0, 2, 0)}
	systems := []int{0, 2}
	for range 2 {
		levels, covering, crossing := Levels(l), Covering(l, 1, Place{Measure: 1}), Crossing(l, 1)
		pieces, _ := Divide(l[0], systems)
		if !slices.Equal(levels, []int{1, 0}) || !slices.Equal(covering, []int{0, 1}) || !slices.Equal(crossing, []int{0, 1}) || len(pieces) != 2 || pieces[0] != (Piece{0, 0, 1, true, false}) {
			t.Error(levels, covering, crossing, pieces)
		}
		levels[0], covering[0], crossing[0], pieces[0] = 9, 9, 9, Piece{}
		if l[0] != sp(1, 0, 0, 4, 0) || systems[0] != 0 {
			t.Error("a result shares memory with an argument")
		}
	}
}
