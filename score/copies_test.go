package score

import (
	"math"
	"reflect"
	"testing"

	"hemiola/api"
)

// P15.6
func TestLast(t *testing.T) {
	s := api.Score{Last: []api.ID{{Site: 3, Number: 7}, {Site: 1, Number: 5}, {Site: 3, Number: 9}, {Site: -2, Number: -4}, {Site: 8}}}
	for site, want := range map[int]int{3: 7, 1: 5, 8: 0, -2: -4, 0: 0, 2: 0, math.MaxInt: 0, math.MinInt: 0} {
		if n := Last(s, site); n != want {
			t.Errorf("Last(%d) = %d", site, n)
		}
	}
	if n := Last(api.Score{}, 0); n != 0 {
		t.Error(n)
	}
}

// P15.6
func TestGive(t *testing.T) {
	last := func(l ...int) []api.ID {
		var ids []api.ID
		for i := 0; i < len(l); i += 2 {
			ids = append(ids, api.ID{Site: l[i], Number: l[i+1]})
		}
		return ids
	}
	for _, c := range []struct {
		last         []api.ID
		site, number int
		want         []api.ID
		e            api.Errno
	}{
		{nil, 0, 1, last(0, 1), api.OK},
		{nil, 99, 1 << 30, last(99, 1<<30), api.OK},
		{last(0, 2), 3, 7, last(0, 2, 3, 7), api.OK}, // example 1
		{last(1, 5, 4, 6), 0, 1, last(0, 1, 1, 5, 4, 6), api.OK},
		{last(1, 5, 4, 6), 1, 6, last(1, 6, 4, 6), api.OK},
		{last(1, 5, 4, 6), 2, 1, last(1, 5, 2, 1, 4, 6), api.OK},
		{last(1, 5, 4, 6), 4, 1000, last(1, 5, 4, 1000), api.OK},
		{last(1, 5, 4, 6), 5, 1, last(1, 5, 4, 6, 5, 1), api.OK},
		// lists that are not in order: the first element counts
		{last(4, 6, 1, 5, 4, 9, 7, 1), 4, 7, last(4, 7, 1, 5, 4, 9, 7, 1), api.OK},
		{last(4, 6, 1, 5, 7, 1), 3, 2, last(3, 2, 4, 6, 1, 5, 7, 1), api.OK},
		{last(1, 5, 7, 1, 4, 6), 5, 2, last(1, 5, 5, 2, 7, 1, 4, 6), api.OK},
		{last(4, 0, 4, 9), 4, 1, last(4, 1, 4, 9), api.OK},
		{last(4, -5), 4, 1, last(4, 1), api.OK},
		// errors
		{last(1, 5), -1, 1, nil, api.ErrRange}, {last(1, 5), 100, 1, nil, api.ErrRange}, {nil, math.MinInt, 1, nil, api.ErrRange}, {nil, math.MaxInt, 1, nil, api.ErrRange},
		{last(1, 5), 1, 0, nil, api.ErrRange}, {last(1, 5), 1, -1, nil, api.ErrRange}, {last(1, 5), 1, 1<<30 + 1, nil, api.ErrRange}, {nil, 2, 0, nil, api.ErrRange}, {nil, 2, math.MinInt, nil, api.ErrRange},
		{last(1, 5), 1, 5, nil, api.ErrSequence}, {last(1, 5), 1, 1, nil, api.ErrSequence}, {last(4, 9, 4, 1), 4, 5, nil, api.ErrSequence},
		{last(100, 5), 100, 5, nil, api.ErrRange}, {last(1, 1<<31), 1, 1 << 30, nil, api.ErrSequence},
	} {
		s := small()
		s.Last = c.last
		before := bare(s)
		got, e := Give(s, c.site, c.number)
		want := api.Score{}
		if c.e == api.OK {
			want = bare(s)
			want.Last = c.want
		}
		if e != c.e || !same(got, want) {
			t.Errorf("Give(%v; %d, %d) = %v, %d; want %v, %d", c.last, c.site, c.number, got.Last, e, c.want, c.e)
		}
		if !same(s, before) {
			t.Error("the score has been changed")
		}
		fresh(t, "Give", got, s)
		if e == api.OK && Last(got, c.site) != c.number {
			t.Errorf("Last after Give(%d, %d) = %d", c.site, c.number, Last(got, c.site))
		}
	}
	// nothing is pruned
	s := small()
	slur(&s, id(1), id(2))
	if got, e := Give(s, 5, 5); e != api.OK || len(got.Spanners) != len(s.Spanners) {
		t.Error(got.Spanners, e)
	}
}

// P15.7: ids in the order of the score, and the ends of spanners.
func TestRenumber(t *testing.T) {
	s, places := odd()
	s.Spanners = nil
	// events 8 and 9, an event with the id of a part, one with that of an earlier event, and one without an id
	s.Measures[2].Cells[1].Voices[1].Events[0].ID = s.Parts[0].ID // 18
	s.Measures[2].Cells[1].Voices[1].Events[1].ID = id(8)         // 19
	s.Measures[3].Cells[2].Voices[0].Events[0].ID = api.ID{}      // 29
	slur(&s, id(8), id(9))
	slur(&s, s.Parts[0].ID, id(8))
	slur(&s, id(2), id(28)) // a staff
	slur(&s, s.Measures[0].ID, api.ID{})
	slur(&s, id(999), api.ID{Site: 2, Number: 1})
	before := bare(s)
	got := Renumber(s)
	ends := [][2]int{{8, 9}, {18, 8}, {0, 28}, {0, 0}, {0, 0}}
	next := 0
	renumber := func(x *api.ID) {
		next++
		*x = api.ID{Number: next}
	}
	want := bare(s)
	for i, p := range want.Parts {
		renumber(&want.Parts[i].ID)
		for k := range p.Staves {
			renumber(&p.Staves[k].ID)
		}
	}
	for i, m := range want.Measures {
		renumber(&want.Measures[i].ID)
		for _, c := range m.Cells {
			for _, v := range c.Voices {
				for k := range v.Events {
					renumber(&v.Events[k].ID)
				}
			}
		}
	}
	for i := range want.Spanners {
		renumber(&want.Spanners[i].ID)
		want.Spanners[i].From, want.Spanners[i].To = api.ID{Number: ends[i][0]}, api.ID{Number: ends[i][1]}
	}
	want.Last = []api.ID{{Number: next}}
	if next != len(places)-2+5 || !same(got, want) || !same(s, before) {
		t.Errorf("Renumber = %v; want %v", got, want)
	}
	fresh(t, "Renumber", got, s)
	if again := Renumber(got); !same(again, got) {
		t.Errorf("Renumber of what it returned = %v", again)
	}
	for i, x := range IDs(got) {
		if x != (api.ID{Number: i + 1}) {
			t.Errorf("%d: %v", i, x)
		}
	}
}

// P15.7
func TestRenumberNothing(t *testing.T) {
	s := api.Score{Title: "A", Written: true, Last: []api.ID{{Site: 1, Number: 2}}}
	if got := Renumber(s); !same(got, api.Score{Title: "A", Written: true}) {
		t.Error(got)
	}
	s.Spanners = []api.Spanner{{Kind: 3}}
	if got := Renumber(s); !same(got, api.Score{Title: "A", Written: true, Spanners: []api.Spanner{{ID: api.ID{Number: 1}, Kind: 3}}, Last: []api.ID{{Number: 1}}}) {
		t.Error(got)
	}
	if got := Renumber(New("B", 4)); !same(got, New("B", 4)) {
		t.Error(got)
	}
}

// full is a score with something in each field.
func full() api.Score {
	x := api.Event{
		ID: api.ID{Site: 1, Number: 2}, Kind: api.Chord, Value: api.Value{Log: 2, Dots: 1},
		Heads:         []api.Head{{Pitch: api.Pitch{Step: 1, Alter: 1, Octave: 3}, Tied: true, Show: 1}},
		Graces:        []api.Grace{{Pitch: api.Pitch{Step: 4, Alter: -1, Octave: 4}, Log: 3, Slash: true}},
		Articulations: 17, Ornament: 2, Dynamic: 5, Stem: 1, Beam: 2,
		Lyrics: []api.Syllable{{Text: "la", Link: 1}},
	}
	measure := func() api.Measure {
		voice := api.Voice{Events: []api.Event{x, x}, Tuplets: []api.Tuplet{{First: 0, Count: 2, Actual: 3, Normal: 2}}}
		return bare(api.Measure{
			ID: api.ID{Site: 3, Number: 4}, Metre: api.Metre{Count: 5, Unit: 4, Groups: [6]int{2, 3}}, Length: 6, Fifths: -2,
			RepeatStart: true, RepeatEnd: 2, Endings: 3, Jump: 4, Labels: 5, Swing: 60, Break: 1, Rehearsal: "A",
			Tempi: []api.TempoMark{{At: 1, Micros: 2, Ramp: true}},
			Cells: []api.Cell{{Clefs: []api.ClefChange{{At: 1, Clef: 2}}, Voices: []api.Voice{voice, voice}}},
		})
	}
	part := func(n int) api.Part {
		return api.Part{ID: id(n), Name: "part", Transpose: api.Interval{Steps: 1, Semitones: 2}, Staves: []api.Staff{{ID: id(n + 1), Clef: 1}, {ID: id(n + 2), Clef: 2}}}
	}
	return api.Score{
		Title: "full", Written: true, Parts: []api.Part{part(1), part(4)}, Measures: []api.Measure{measure(), measure()},
		Spanners: []api.Spanner{{ID: id(8), Kind: 2, From: id(9), To: id(10)}, {ID: id(11), Kind: 3, From: id(12), To: id(13)}},
		Last:     []api.ID{{Site: 1, Number: 20}, {Site: 3, Number: 4}},
	}
}

// leaf is a change of a number, a text or a list within a value.
type leaf struct {
	path   string
	list   bool
	change func()
}

// leaves are the changes of all numbers, texts and lists within a value.
func leaves(v reflect.Value, path string) []leaf {
	var l []leaf
	add := func(name string, change func()) {
		l = append(l, leaf{path + name, v.Kind() == reflect.Slice, change})
	}
	switch v.Kind() {
	case reflect.Int:
		add(" plus 1", func() { v.SetInt(v.Int() + 1) })
		add(" minus 2^40", func() { v.SetInt(v.Int() - 1<<40) })
	case reflect.Bool:
		add(" turned", func() { v.SetBool(!v.Bool()) })
	case reflect.String:
		add(" longer", func() { v.SetString(v.String() + "\x00") })
		add(" empty", func() { v.SetString("") })
	case reflect.Slice:
		add(" empty", func() { v.SetZero() })
		add(" shorter", func() { v.SetLen(v.Len() - 1) })
		add(" longer", func() { v.Set(reflect.Append(v, reflect.Zero(v.Type().Elem()))) })
	}
	switch v.Kind() {
	case reflect.Slice, reflect.Array:
		for i := range v.Len() {
			l = append(l, leaves(v.Index(i), path+"[]")...)
		}
	case reflect.Struct:
		for i := range v.NumField() {
			l = append(l, leaves(v.Field(i), path+"."+v.Type().Field(i).Name)...)
		}
	}
	return l
}

// P15.8
func TestEqual(t *testing.T) {
	base := full()
	n := len(leaves(reflect.ValueOf(&base).Elem(), ""))
	if n < 400 {
		t.Fatal(n)
	}
	for i := range n {
		s := full()
		l := leaves(reflect.ValueOf(&s).Elem(), "")[i]
		l.change()
		if same(s, base) {
			t.Fatal("nothing is changed:", l.path)
		}
		if Equal(s, base) || Equal(base, s) {
			t.Errorf("Equal with %s", l.path)
		}
	}
	if !Equal(base, full()) || !same(base, full()) {
		t.Error("equal scores are not Equal, or have been changed")
	}
}

// P15.8: empty lists and no lists are equal.
func TestEmpty(t *testing.T) {
	empty := api.Score{Parts: []api.Part{}, Measures: []api.Measure{}, Spanners: []api.Spanner{}, Last: []api.ID{}}
	if !Equal(empty, api.Score{}) || !Equal(api.Score{}, empty) || !Same(empty, api.Score{}) || !same(Clone(empty), api.Score{}) {
		t.Error("scores with empty lists")
	}
	a := api.Score{Parts: []api.Part{{Staves: []api.Staff{}}}, Measures: []api.Measure{{Cells: []api.Cell{}, Tempi: []api.TempoMark{}}}}
	b := api.Score{Parts: make([]api.Part, 1), Measures: make([]api.Measure, 1)}
	if !Equal(a, b) || !Equal(b, a) || !Same(a, b) {
		t.Error("parts and measures with empty lists")
	}
}

// P15.8: a copy is equal, and nothing that is changed in it changes the original.
func TestClone(t *testing.T) {
	s := full()
	c := Clone(s)
	if !same(c, s) {
		t.Errorf("Clone = %v", c)
	}
	fresh(t, "Clone", c, s)
	for _, l := range leaves(reflect.ValueOf(&c).Elem(), "") {
		if !l.list {
			l.change()
		}
	}
	if !same(s, full()) {
		t.Error("Clone shares memory")
	}
}

// P15.8: Same compares what Renumber returns.
func TestSame(t *testing.T) {
	a, b := small(), small()
	ids := map[api.ID]api.ID{}
	for i, x := range IDs(b) {
		ids[x] = api.ID{Site: i % 7, Number: 1000 - i}
	}
	for _, x := range objects(b) {
		*x = ids[*x]
	}
	for i, x := range b.Spanners {
		b.Spanners[i].From, b.Spanners[i].To = ids[x.From], ids[x.To]
	}
	b.Last = nil
	before := [2]api.Score{bare(a), bare(b)}
	if !Same(a, b) || !Same(b, a) || Equal(a, b) {
		t.Error("other ids")
	}
	if !same(before[0], a) || !same(before[1], b) {
		t.Error("Same has changed its arguments")
	}
	for i, change := range []func(s *api.Score){
		func(s *api.Score) { s.Title = "other" },
		func(s *api.Score) { s.Written = true },
		func(s *api.Score) { s.Parts[1].Staves[0].Clef++ },
		func(s *api.Score) { s.Measures[1].Cells[2].Voices[0].Events[0].Dynamic++ },
		func(s *api.Score) { s.Spanners[0].To = s.Spanners[1].To },
		func(s *api.Score) { s.Spanners[0].To = api.ID{} },
		func(s *api.Score) { s.Spanners[0], s.Spanners[1] = s.Spanners[1], s.Spanners[0] },
		func(s *api.Score) { s.Spanners = s.Spanners[1:] },
	} {
		c := Clone(b)
		change(&c)
		if Same(a, c) || Same(c, a) {
			t.Errorf("%d: Same", i)
		}
	}
	// Spanners that lead nowhere lead to the same place.
	a.Spanners[0].To, b.Spanners[0].To = id(500), a.Parts[0].ID
	if !Same(a, b) {
		t.Error("spanners that lead nowhere")
	}
}
