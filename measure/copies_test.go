package measure

import (
	"math"
	"reflect"
	"slices"
	"testing"

	"hemiola/api"
)

// P13.8
func TestNumber(t *testing.T) {
	cells := "C4:4 D4:4@7 ; r:2 | ; m@9 ; r:4 m | | C4:2 E4:1" // the last two cells are not valid
	m := read("2/4", 0, cells)
	m.Cells[3].Voices[0].Events[1].ID.Site = 6 // not the zero id
	before := bare(m)
	n, next := Number(m, 3, 5)
	want := bare(m)
	number := func(staff, voice, event, number int) {
		want.Cells[staff].Voices[voice].Events[event].ID = api.ID{Site: 3, Number: number}
	}
	number(0, 0, 0, 5)
	number(0, 1, 0, 6)
	number(1, 2, 0, 7)
	number(1, 2, 1, 8)
	number(3, 0, 0, 9)
	if !same(n, want) || next != 10 {
		t.Errorf("Number = %v, %d; want %v", n, next, want)
	}
	if !same(m, before) {
		t.Error("Number has changed its argument")
	}
	fresh(t, "Number", n, m)
	if again, next := Number(n, 4, 1); !same(again, n) || next != 1 {
		t.Errorf("Number of what it returned = %v, %d", again, next)
	}
}

// P13.8: neither the site nor the number nor the measure is checked.
func TestNumberAny(t *testing.T) {
	if n, next := Number(api.Measure{}, 1, 77); !same(n, api.Measure{}) || next != 77 {
		t.Error(n, next)
	}
	m := read("2/4", 0, "m | m")
	if n, next := Number(m, 0, 0); !same(n, read("2/4", 0, "m | m@1")) || next != 2 {
		t.Error(n, next)
	}
	n, next := Number(m, math.MinInt, -1)
	if l := IDs(n); !slices.Equal(l, []api.ID{{}, {Site: math.MinInt, Number: -1}, {Site: math.MinInt}}) || next != 1 {
		t.Error(l, next)
	}
	m.ID, m.Metre, m.Length = api.ID{}, api.Metre{}, -1
	if n, next := Number(m, 2, 3); n.ID != (api.ID{}) || n.Cells[1].Voices[0].Events[0].ID != (api.ID{Site: 2, Number: 4}) || next != 5 {
		t.Error(n, next)
	}
}

// P13.8
func TestIDs(t *testing.T) {
	m := read("2/4", 0, "C4:4@3 D4:4 ; r:2@3 | ; m@9 ; r:4 m@-2 | | C4:2@8 E4:1@4")
	m.ID = api.ID{Site: 5, Number: 6}
	want := []api.ID{{Site: 5, Number: 6}, {Number: 3}, {}, {Number: 3}, {Number: 9}, {}, {Number: -2}, {Number: 8}, {Number: 4}}
	if l := IDs(m); !slices.Equal(l, want) {
		t.Errorf("IDs = %v; want %v", l, want)
	}
	if l := IDs(api.Measure{}); !slices.Equal(l, []api.ID{{}}) {
		t.Errorf("IDs of nothing = %v", l)
	}
}

// P13.8
func TestSilent(t *testing.T) {
	m := read("2/4", 0, "r:4 s:4 ; m | r:4 ; m m r:8 C4:8 | | r:4 C4:1 ; | m ; ; C4:4")
	m.Cells = append(m.Cells, read("2/4", 0, "C4:2 ; r:2 D4:4").Cells...)
	m.Cells[5].Voices[0].Events[0].Heads = nil // a chord without heads
	m.Cells[5].Voices[1].Events[1].Kind = 7    // heads of what is no chord
	for staff, want := range map[int]bool{0: true, 1: false, 2: true, 3: false, 4: false, 5: true, 6: true, -1: true, math.MinInt: true, math.MaxInt: true} {
		if Silent(m, staff) != want {
			t.Errorf("Silent(%d) = %t", staff, !want)
		}
	}
	if !Silent(api.Measure{}, 0) {
		t.Error("a measure without staves is not silent")
	}
}

// full is a measure with something in each field.
func full() api.Measure {
	x := api.Event{
		ID: api.ID{Site: 1, Number: 2}, Kind: api.Chord, Value: api.Value{Log: 2, Dots: 1},
		Heads:         []api.Head{{Pitch: api.Pitch{Step: 1, Alter: 1, Octave: 3}, Tied: true, Show: 1}, {Pitch: api.Pitch{Octave: 5}}},
		Graces:        []api.Grace{{Pitch: api.Pitch{Step: 4, Alter: -1, Octave: 4}, Log: 3, Slash: true}},
		Articulations: 17, Ornament: 2, Dynamic: 5, Stem: 1, Beam: 2,
		Lyrics: []api.Syllable{{Text: "la", Link: 1}, {Text: "le"}},
	}
	voice := func() api.Voice {
		return bare(api.Voice{Events: []api.Event{x, x}, Tuplets: []api.Tuplet{{First: 0, Count: 2, Actual: 3, Normal: 2}}})
	}
	cell := func() api.Cell {
		return api.Cell{Clefs: []api.ClefChange{{At: 1, Clef: 2}, {At: 7, Clef: 3}}, Voices: []api.Voice{voice(), voice()}}
	}
	return api.Measure{
		ID: api.ID{Site: 3, Number: 4}, Metre: api.Metre{Count: 5, Unit: 4, Groups: [6]int{2, 3}}, Length: 6, Fifths: -2,
		RepeatStart: true, RepeatEnd: 2, Endings: 3, Jump: 4, Labels: 5, Swing: 60, Break: 1, Rehearsal: "A",
		Tempi: []api.TempoMark{{At: 1, Micros: 2, Ramp: true}, {At: 3, Micros: 4}},
		Cells: []api.Cell{cell(), cell()},
	}
}

// leaf is a change of a number, a text or a list within a value, and whether this belongs to an id.
type leaf struct {
	path       string
	ofID, list bool
	change     func()
}

// leaves are the changes of all numbers, texts and lists within a value.
func leaves(v reflect.Value, path string, ofID bool) []leaf {
	var l []leaf
	add := func(name string, change func()) {
		l = append(l, leaf{path + name, ofID, v.Kind() == reflect.Slice, change})
	}
	switch v.Kind() {
	case reflect.Int:
		add(" plus 1", func() { v.SetInt(v.Int() + 1) })
		add(" minus 2^40", func() { v.SetInt(v.Int() - 1<<40) })
	case reflect.Bool:
		add(" turned", func() { v.SetBool(!v.Bool()) })
	case reflect.String:
		add(" longer", func() { v.SetString(v.String() + "\x00") })
		add(" empty", func() { v.SetString("") })
	case reflect.Slice:
		add(" empty", func() { v.SetZero() })
		add(" shorter", func() { v.SetLen(v.Len() - 1) })
		add(" longer", func() { v.Set(reflect.Append(v, reflect.Zero(v.Type().Elem()))) })
	}
	switch v.Kind() {
	case reflect.Slice, reflect.Array:
		for i := range v.Len() {
			l = append(l, leaves(v.Index(i), path+"[]", ofID)...)
		}
	case reflect.Struct:
		for i := range v.NumField() {
			name := v.Type().Field(i).Name
			l = append(l, leaves(v.Field(i), path+"."+name, ofID || name == "ID")...)
		}
	}
	return l
}

// overwrite changes all numbers and texts within a value.
func overwrite(v reflect.Value) {
	for _, l := range leaves(v, "", false) {
		if !l.list {
			l.change()
		}
	}
}

// P13.9
func TestEqual(t *testing.T) {
	base := full()
	if n := len(leaves(reflect.ValueOf(&base).Elem(), "", false)); n < 300 {
		t.Fatal(n)
	}
	for i := range leaves(reflect.ValueOf(&base).Elem(), "", false) {
		m := full()
		l := leaves(reflect.ValueOf(&m).Elem(), "", false)[i]
		l.change()
		if same(m, base) {
			t.Fatal("nothing is changed:", l.path)
		}
		if Equal(m, base) || Equal(base, m) {
			t.Errorf("Equal with %s", l.path)
		}
		if Same(m, base) != l.ofID || Same(base, m) != l.ofID {
			t.Errorf("Same with %s = %t", l.path, !l.ofID)
		}
	}
	if !Equal(base, full()) || !Same(base, full()) || !same(base, full()) {
		t.Error("equal measures are not Equal, or have been changed")
	}
}

// P13.9
func TestEqualCell(t *testing.T) {
	base := full().Cells[0]
	for i := range leaves(reflect.ValueOf(&base).Elem(), "", false) {
		c := full().Cells[0]
		l := leaves(reflect.ValueOf(&c).Elem(), "", false)[i]
		l.change()
		if EqualCell(c, base) || EqualCell(base, c) {
			t.Errorf("EqualCell with %s", l.path)
		}
	}
	if !EqualCell(base, full().Cells[1]) || !same(base, full().Cells[0]) {
		t.Error("equal cells are not EqualCell, or have been changed")
	}
}

// P13.9: empty lists and no lists are equal.
func TestEmpty(t *testing.T) {
	empty := api.Measure{Tempi: []api.TempoMark{}, Cells: []api.Cell{}}
	if !Equal(empty, api.Measure{}) || !Equal(api.Measure{}, empty) || !Same(empty, api.Measure{}) {
		t.Error("measures with empty lists")
	}
	a := api.Cell{Clefs: []api.ClefChange{}, Voices: []api.Voice{{Events: []api.Event{}, Tuplets: []api.Tuplet{}}}}
	b := api.Cell{Voices: make([]api.Voice, 1)}
	if !EqualCell(a, b) || !EqualCell(b, a) || EqualCell(a, api.Cell{}) || EqualCell(api.Cell{}, b) {
		t.Error("cells with empty lists")
	}
	chord := func(x api.Event) api.Cell {
		return api.Cell{Voices: []api.Voice{{Events: []api.Event{x}}}}
	}
	if !EqualCell(chord(api.Event{Heads: []api.Head{}, Graces: []api.Grace{}, Lyrics: []api.Syllable{}}), chord(api.Event{})) {
		t.Error("events with empty lists")
	}
	if c := Clone(empty); !same(c, api.Measure{}) {
		t.Error(c)
	}
	if c := CloneCell(a); !same(c, b) {
		t.Error(c)
	}
}

// P13.9: ids are compared as Same says, whatever else they belong to.
func TestSameIDs(t *testing.T) {
	a := read("2/4", 0, "C4:4@1 D4:4@2 ; r:2@3 | m@4")
	b := read("2/4", 0, "C4:4@9 D4:4 ; r:2@1 | m@1")
	b.ID = api.ID{Site: 8, Number: 9}
	before := [2]api.Measure{bare(a), bare(b)}
	if !Same(a, b) || !Same(b, a) || Equal(a, b) {
		t.Error("measures with different ids")
	}
	if Same(a, read("2/4", 0, "C4:4@1 E4:4@2 ; r:2@3 | m@4")) || Same(a, read("2/4", 0, "C4:4@1 D4:4@2 | m@4")) {
		t.Error("measures with different events")
	}
	if !same(before[0], a) || !same(before[1], b) {
		t.Error("Same has changed its arguments")
	}
}

// P13.9: a copy is equal, and nothing that is changed in it changes the original.
func TestClone(t *testing.T) {
	m := full()
	n := Clone(m)
	if !same(n, m) {
		t.Errorf("Clone = %v", n)
	}
	fresh(t, "Clone", n, m)
	overwrite(reflect.ValueOf(&n).Elem())
	if !same(m, full()) {
		t.Error("Clone shares memory")
	}
	c := CloneCell(m.Cells[0])
	if !same(c, m.Cells[0]) {
		t.Errorf("CloneCell = %v", c)
	}
	fresh(t, "CloneCell", c, m)
	overwrite(reflect.ValueOf(&c).Elem())
	if !same(m, full()) {
		t.Error("CloneCell shares memory")
	}
}
