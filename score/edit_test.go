package score

import (
	"math"
	"slices"
	"testing"

	"hemiola/api"
)

// small is a score of three staves with slurs within and between the staves and measures.
func small() api.Score {
	s, _ := build([]int{1, 2}, "1|1|1", "1|1|1") // events 7, 8, 9 and 11, 12, 13
	for _, l := range [][2]int{{7, 11}, {8, 9}, {9, 13}, {7, 8}, {12, 12}, {13, 13}} {
		slur(&s, id(l[0]), id(l[1]))
	}
	return s
}

// cell returns a cell with a chord and a clef change.
func cell(n int) api.Cell {
	return api.Cell{Clefs: []api.ClefChange{{At: n, Clef: 2}}, Voices: []api.Voice{{Events: []api.Event{named(id(n))}, Tuplets: []api.Tuplet{{Count: 1}}}}}
}

// part returns a part with some staves.
func part(n int) api.Part {
	p := api.Part{ID: id(900), Name: "new", Transpose: api.Interval{Steps: 1, Semitones: 2}}
	for i := range n {
		p.Staves = append(p.Staves, api.Staff{ID: id(901 + i), Clef: 3})
	}
	return p
}

// P15.4: where the part and its cells are inserted.
func TestInsertPart(t *testing.T) {
	for at, first := range []int{0, 1, 3} {
		for n := range 4 {
			s := small()
			s.Spanners = append(s.Spanners, api.Spanner{From: id(500)}) // stays, as nothing is deleted
			before := bare(s)
			var cells [][]api.Cell
			for m := range 2 {
				var l []api.Cell
				for i := range n {
					l = append(l, cell(600+10*m+i))
				}
				cells = append(cells, l)
			}
			p := part(n)
			kept := bare(cells)
			got, e := InsertPart(s, at, p, cells)
			want := bare(s)
			want.Parts = slices.Concat(want.Parts[:at:at], []api.Part{part(n)}, want.Parts[at:])
			for m := range 2 {
				l := want.Measures[m].Cells
				want.Measures[m].Cells = slices.Concat(l[:first:first], kept[m], l[first:])
			}
			if e != api.OK || !same(got, want) {
				t.Errorf("InsertPart(%d) of %d staves = %v, %d; want %v", at, n, got, e, want)
			}
			fresh(t, "InsertPart", got, s, cells, p)
			if !same(s, before) || !same(cells, kept) || !same(p, part(n)) {
				t.Error("an argument has been changed")
			}
			back, e := DeletePart(got, at)
			if e != api.OK || !same(back, Prune(s)) {
				t.Errorf("DeletePart(%d) = %v, %d", at, back, e)
			}
		}
	}
	// the same cell in two places
	one := []api.Cell{cell(1)}
	got, _ := InsertPart(small(), 0, part(1), [][]api.Cell{one, one})
	fresh(t, "InsertPart", got, one)
}

// P15.4: the errors in their order.
func TestInsertPartErrors(t *testing.T) {
	full := small()
	for len(full.Parts) < api.MaxParts {
		full.Parts = append(full.Parts, api.Part{})
	}
	ragged := small()
	ragged.Measures[1].Cells = ragged.Measures[1].Cells[:2]
	crowded := full
	crowded.Measures = ragged.Measures
	wide := small()
	wide.Measures[0].Cells = append(wide.Measures[0].Cells, api.Cell{})
	ok := [][]api.Cell{{{}}, {{}}}
	for i, c := range []struct {
		s     api.Score
		at    int
		cells [][]api.Cell
		e     api.Errno
	}{
		{small(), 0, ok, api.OK}, {small(), 2, ok, api.OK},
		{small(), -1, ok, api.ErrRange}, {small(), 3, ok, api.ErrRange}, {small(), math.MinInt, ok, api.ErrRange}, {small(), math.MaxInt, ok, api.ErrRange},
		{full, 0, ok, api.ErrLimit}, {full, 32, ok, api.ErrLimit}, {full, 33, ok, api.ErrRange}, {full, -1, nil, api.ErrRange},
		{crowded, 1, nil, api.ErrLimit}, {crowded, 33, nil, api.ErrRange},
		{ragged, 0, ok, api.ErrFormat}, {wide, 0, ok, api.ErrFormat}, {ragged, 0, nil, api.ErrFormat}, {ragged, 3, ok, api.ErrRange},
		{small(), 0, nil, api.ErrLength}, {small(), 0, ok[:1], api.ErrLength}, {small(), 0, [][]api.Cell{{{}}, {{}}, {{}}}, api.ErrLength},
		{small(), 0, [][]api.Cell{{{}}, {}}, api.ErrLength}, {small(), 0, [][]api.Cell{{{}, {}}, {{}}}, api.ErrLength},
		{api.Score{}, 0, nil, api.OK}, {api.Score{}, 1, nil, api.ErrRange}, {api.Score{}, 0, ok, api.ErrLength},
	} {
		got, e := InsertPart(c.s, c.at, part(1), c.cells)
		if e != c.e || e != api.OK && !same(got, api.Score{}) || e == api.OK && len(got.Parts) != len(c.s.Parts)+1 {
			t.Errorf("%d: InsertPart(%d) = %v, %d; want %d", i, c.at, got, e, c.e)
		}
	}
	// one part less is not too many
	full.Parts = full.Parts[:api.MaxParts-1]
	if got, e := InsertPart(full, 5, part(1), ok); e != api.OK || len(got.Parts) != api.MaxParts {
		t.Error(e)
	}
	full.Parts = append(full.Parts, api.Part{}, api.Part{})
	if _, e := InsertPart(full, 5, part(1), ok); e != api.ErrLimit {
		t.Error(e)
	}
}

// P15.4
func TestDeletePart(t *testing.T) {
	s := small()
	before := bare(s)
	for at, c := range []struct{ cells, spanners []int }{{[]int{1, 2}, []int{2, 3, 5, 6}}, {[]int{0}, []int{1}}} {
		got, e := DeletePart(s, at)
		want := bare(s)
		want.Parts = []api.Part{want.Parts[1-at]}
		for i, m := range want.Measures {
			want.Measures[i].Cells = nil
			for _, k := range c.cells {
				want.Measures[i].Cells = append(want.Measures[i].Cells, m.Cells[k])
			}
		}
		want.Spanners = got.Spanners
		if e != api.OK || !same(got, want) || !slices.Equal(spanners(got), c.spanners) {
			t.Errorf("DeletePart(%d) = %v, %d", at, got, e)
		}
		fresh(t, "DeletePart", got, s)
	}
	ragged := small()
	ragged.Measures[1].Cells = nil
	for i, c := range []struct {
		s  api.Score
		at int
		e  api.Errno
	}{
		{s, -1, api.ErrRange}, {s, 2, api.ErrRange}, {s, math.MinInt, api.ErrRange}, {s, math.MaxInt, api.ErrRange}, {api.Score{}, 0, api.ErrRange},
		{ragged, 0, api.ErrFormat}, {ragged, 2, api.ErrRange},
	} {
		if got, e := DeletePart(c.s, c.at); e != c.e || !same(got, api.Score{}) {
			t.Errorf("%d: DeletePart = %v, %d; want %d", i, got, e, c.e)
		}
	}
	if !same(s, before) {
		t.Error("the score has been changed")
	}
	if got, e := DeletePart(New("A", 1), 0); e != api.OK || !same(got, api.Score{Title: "A", Last: []api.ID{{Number: 2}}}) {
		t.Error(got, e)
	}
}

// bars returns measures with so many cells.
func bars(cells ...int) []api.Measure {
	var l []api.Measure
	for i, n := range cells {
		m := api.Measure{ID: id(700 + i), Tempi: []api.TempoMark{{Micros: 1}}}
		for k := range n {
			m.Cells = append(m.Cells, cell(800+10*i+k))
		}
		l = append(l, m)
	}
	return l
}

// P15.5
func TestInsertMeasures(t *testing.T) {
	for at := range 3 {
		for _, count := range []int{0, 1, 3} {
			s := small()
			s.Spanners = append(s.Spanners, api.Spanner{From: id(500)})
			before := bare(s)
			l := bars(slices.Repeat([]int{3}, count)...)
			kept := bare(l)
			got, e := InsertMeasures(s, at, l)
			want := bare(s)
			want.Measures = slices.Concat(want.Measures[:at:at], kept, want.Measures[at:])
			if e != api.OK || !same(got, want) {
				t.Errorf("InsertMeasures(%d, %d) = %v, %d", at, count, got, e)
			}
			fresh(t, "InsertMeasures", got, s, l)
			if !same(s, before) || !same(l, kept) {
				t.Error("an argument has been changed")
			}
			back, e := DeleteMeasures(got, at, count)
			if e != api.OK || !same(back, Prune(s)) {
				t.Errorf("DeleteMeasures(%d, %d) = %v, %d", at, count, back, e)
			}
		}
	}
	one := bars(3)
	got, _ := InsertMeasures(small(), 1, []api.Measure{one[0], one[0]})
	fresh(t, "InsertMeasures", got, one)
}

// P15.5: the errors in their order, and the limit.
func TestInsertMeasuresErrors(t *testing.T) {
	s := small()
	many := New("", 1)
	many.Measures = make([]api.Measure, 1000)
	for i, c := range []struct {
		s  api.Score
		at int
		l  []api.Measure
		e  api.Errno
	}{
		{s, 2, bars(3), api.OK}, {s, -1, bars(3), api.ErrRange}, {s, 3, bars(3), api.ErrRange}, {s, math.MinInt, nil, api.ErrRange}, {s, math.MaxInt, nil, api.ErrRange},
		{s, 0, bars(2), api.ErrLength}, {s, 0, bars(3, 4), api.ErrLength}, {s, 0, bars(0), api.ErrLength},
		{many, 1000, make([]api.Measure, 25), api.ErrLimit}, {many, 1001, make([]api.Measure, 25), api.ErrRange}, {many, 0, make([]api.Measure, 24), api.ErrLength},
		{many, 1000, bars(slices.Repeat([]int{1}, 24)...), api.OK}, {many, 0, bars(slices.Repeat([]int{1}, 25)...), api.ErrLimit},
		{api.Score{}, 0, nil, api.OK}, {api.Score{}, 0, bars(0), api.OK}, {api.Score{}, 0, bars(1), api.ErrLength},
	} {
		got, e := InsertMeasures(c.s, c.at, c.l)
		if e != c.e || e != api.OK && !same(got, api.Score{}) || e == api.OK && len(got.Measures) != len(c.s.Measures)+len(c.l) {
			t.Errorf("%d: InsertMeasures = %d; want %d", i, e, c.e)
		}
	}
}

// P15.5
func TestDeleteMeasures(t *testing.T) {
	s := small()
	before := bare(s)
	for _, c := range []struct {
		at, count      int
		left, spanners []int
	}{
		{0, 0, []int{0, 1}, []int{1, 2, 3, 4, 5, 6}}, {2, 0, []int{0, 1}, []int{1, 2, 3, 4, 5, 6}},
		{0, 1, []int{1}, []int{5, 6}}, {1, 1, []int{0}, []int{2, 4}}, {0, 2, nil, nil},
	} {
		got, e := DeleteMeasures(s, c.at, c.count)
		want := bare(s)
		want.Measures = nil
		for _, i := range c.left {
			want.Measures = append(want.Measures, s.Measures[i])
		}
		want.Spanners = got.Spanners
		if e != api.OK || !same(got, want) || !slices.Equal(spanners(got), c.spanners) {
			t.Errorf("DeleteMeasures(%d, %d) = %v, %d", c.at, c.count, got, e)
		}
		fresh(t, "DeleteMeasures", got, s)
	}
	for _, c := range [][2]int{{-1, 1}, {0, -1}, {0, 3}, {1, 2}, {2, 1}, {3, 0}, {math.MaxInt, 0}, {math.MaxInt, math.MaxInt}, {1, math.MaxInt}, {0, math.MinInt}, {math.MinInt, 0}, {math.MinInt, math.MinInt}, {math.MinInt, math.MaxInt}, {-1, 0}} {
		if got, e := DeleteMeasures(s, c[0], c[1]); e != api.ErrRange || !same(got, api.Score{}) {
			t.Errorf("DeleteMeasures(%v) = %v, %d", c, got, e)
		}
	}
	if !same(s, before) {
		t.Error("the score has been changed")
	}
}

// P15.5
func TestSetMeasure(t *testing.T) {
	s := small()
	before := bare(s)
	for index, left := range [][]int{{5, 6}, {2, 4}} {
		m := bars(3)[0]
		got, e := SetMeasure(s, index, m)
		want := bare(s)
		want.Measures[index] = bars(3)[0]
		want.Spanners = got.Spanners
		if e != api.OK || !same(got, want) || !slices.Equal(spanners(got), left) || !same(m, bars(3)[0]) {
			t.Errorf("SetMeasure(%d) = %v, %d", index, got, e)
		}
		fresh(t, "SetMeasure", got, s, m)
	}
	for _, c := range []struct {
		index, cells int
		e            api.Errno
	}{{-1, 3, api.ErrRange}, {2, 3, api.ErrRange}, {math.MinInt, 0, api.ErrRange}, {math.MaxInt, 3, api.ErrRange}, {0, 2, api.ErrLength}, {1, 4, api.ErrLength}, {0, 0, api.ErrLength}, {2, 0, api.ErrRange}} {
		if got, e := SetMeasure(s, c.index, bars(c.cells)[0]); e != c.e || !same(got, api.Score{}) {
			t.Errorf("SetMeasure(%d) of %d cells = %v, %d", c.index, c.cells, got, e)
		}
	}
	// the measure that is replaced, and others, may have any cells
	s.Measures[0].Cells, s.Measures[1].Cells = nil, s.Measures[1].Cells[:1]
	if got, e := SetMeasure(s, 0, bars(3)[0]); e != api.OK || len(got.Measures[0].Cells) != 3 {
		t.Error(got, e)
	}
	s = small()
	if !same(s, before) {
		t.Error("the score has been changed")
	}
}

// P15.5
func TestSetCell(t *testing.T) {
	s := small()
	s.Measures[1].Cells = append(s.Measures[1].Cells, cell(14)) // a cell without a staff
	before := bare(s)
	for _, c := range []struct {
		measure, staff int
		left           []int
	}{{0, 0, []int{2, 3, 5, 6}}, {0, 2, []int{1, 4, 5, 6}}, {1, 1, []int{1, 2, 3, 4, 6}}, {1, 3, []int{1, 2, 3, 4, 5, 6}}} {
		x := cell(77)
		got, e := SetCell(s, c.measure, c.staff, x)
		want := bare(s)
		want.Measures[c.measure].Cells[c.staff] = cell(77)
		want.Spanners = got.Spanners
		if e != api.OK || !same(got, want) || !slices.Equal(spanners(got), c.left) || !same(x, cell(77)) {
			t.Errorf("SetCell(%d, %d) = %v, %d", c.measure, c.staff, got, e)
		}
		fresh(t, "SetCell", got, s, x)
	}
	for _, c := range [][2]int{{-1, 0}, {2, 0}, {0, -1}, {0, 3}, {1, 4}, {math.MaxInt, 0}, {math.MinInt, 0}, {0, math.MaxInt}, {0, math.MinInt}} {
		if got, e := SetCell(s, c[0], c[1], cell(1)); e != api.ErrRange || !same(got, api.Score{}) {
			t.Errorf("SetCell(%v) = %v, %d", c, got, e)
		}
	}
	if !same(s, before) {
		t.Error("the score has been changed")
	}
}

// P15.6: only the ids of events count.
func TestPrune(t *testing.T) {
	s := small()
	for _, x := range []api.ID{s.Parts[0].ID, s.Parts[1].Staves[0].ID, s.Measures[0].ID, s.Spanners[0].ID, id(99), {Site: 2, Number: 7}, {Number: 7}, {}} {
		slur(&s, id(7), x)
		slur(&s, x, id(7))
		slur(&s, x, x)
	}
	slur(&s, id(13), id(7)) // in no order, and of another staff
	before := bare(s)
	got := Prune(s)
	want := bare(s)
	want.Spanners = append(want.Spanners[:6:6], want.Spanners[len(s.Spanners)-1])
	if !same(got, want) || !same(s, before) {
		t.Errorf("Prune = %v", got)
	}
	fresh(t, "Prune", got, s)
	if again := Prune(got); !same(again, got) {
		t.Error(again)
	}
	if got := Prune(api.Score{}); !same(got, api.Score{}) {
		t.Error(got)
	}
}
