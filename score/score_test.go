package score

import (
	"math"
	"reflect"
	"slices"
	"strconv"
	"strings"
	"testing"

	"hemiola/api"
)

// build returns a score whose parts have so many staves, and whose measures have cells ("|") with voices (";") of so many events, like "2;1||3": a cell without text has no voices. The objects have the ids {1, 1}, {1, 2} and so on in the order of the score, and the events are different. It returns the places of the objects, too.
func build(staves []int, measures ...string) (s api.Score, places []Place) {
	s.Title = "built"
	next := func(p Place) api.ID {
		places = append(places, p)
		return api.ID{Site: 1, Number: len(places)}
	}
	staff := 0
	for i, n := range staves {
		p := api.Part{ID: next(Place{Kind: Part, Part: i}), Name: "part " + strconv.Itoa(i)}
		for range n {
			p.Staves = append(p.Staves, api.Staff{ID: next(Place{Kind: Staff, Staff: staff}), Clef: 1 + staff})
			staff++
		}
		s.Parts = append(s.Parts, p)
	}
	for i, text := range measures {
		m := api.Measure{ID: next(Place{Kind: Measure, Measure: i}), Fifths: i}
		for k, cell := range strings.Split(text, "|") {
			var c api.Cell
			for v, count := range strings.FieldsFunc(cell, func(r rune) bool { return r == ';' }) {
				var w api.Voice
				for n := range number(count) {
					id := next(Place{Kind: Event, Measure: i, Staff: k, Voice: v, Event: n})
					w.Events = append(w.Events, named(id))
				}
				c.Voices = append(c.Voices, w)
			}
			m.Cells = append(m.Cells, c)
		}
		s.Measures = append(s.Measures, m)
	}
	s.Last = []api.ID{{Site: 1, Number: 1000}}
	return s, places
}

func number(s string) int {
	n, e := strconv.Atoi(s)
	if e != nil {
		panic(s)
	}
	return n
}

// named returns a chord with an id that differs from those with other ids.
func named(id api.ID) api.Event {
	return api.Event{ID: id, Kind: api.Chord, Ornament: id.Number, Heads: []api.Head{{Show: id.Number}}, Lyrics: []api.Syllable{{Text: "la"}}}
}

// id returns an id of the site of build.
func id(n int) api.ID { return api.ID{Site: 1, Number: n} }

// slur adds a spanner to a score, with the next number.
func slur(s *api.Score, from, to api.ID) {
	s.Spanners = append(s.Spanners, api.Spanner{ID: api.ID{Site: 2, Number: 1 + len(s.Spanners)}, Kind: api.Slur, From: from, To: to})
}

// spanners returns the numbers of the ids of the spanners.
func spanners(s api.Score) []int {
	var l []int
	for _, x := range s.Spanners {
		l = append(l, x.ID.Number)
	}
	return l
}

// bare replaces empty lists, at any depth, by nil, so that values can be compared with reflect.DeepEqual.
func bare[T any](x T) T {
	v := reflect.New(reflect.TypeOf(x)).Elem()
	v.Set(bared(reflect.ValueOf(x)))
	return v.Interface().(T)
}

func bared(v reflect.Value) reflect.Value {
	n := reflect.New(v.Type()).Elem()
	n.Set(v)
	switch {
	case v.Kind() == reflect.Slice && v.Len() == 0:
		n.SetZero()
	case v.Kind() == reflect.Slice:
		n.Set(reflect.MakeSlice(v.Type(), v.Len(), v.Len()))
		for i := range v.Len() {
			n.Index(i).Set(bared(v.Index(i)))
		}
	case v.Kind() == reflect.Struct:
		for i := range v.NumField() {
			n.Field(i).Set(bared(v.Field(i)))
		}
	}
	return n
}

// same compares without the functions of the packages.
func same[T any](a, b T) bool { return reflect.DeepEqual(bare(a), bare(b)) }

// blocks collects the memory of the slices of a value: its first byte, and the first one after it.
func blocks(v reflect.Value, l *[][2]uintptr) {
	switch v.Kind() {
	case reflect.Slice:
		if v.Len() > 0 {
			*l = append(*l, [2]uintptr{v.Pointer(), v.Pointer() + uintptr(v.Len())*v.Type().Elem().Size()})
		}
		for i := range v.Len() {
			blocks(v.Index(i), l)
		}
	case reflect.Struct:
		for i := range v.NumField() {
			blocks(v.Field(i), l)
		}
	}
}

// fresh checks that the slices of a result share no memory with one another or with arguments.
func fresh(t *testing.T, name string, result any, arguments ...any) {
	t.Helper()
	var own, other [][2]uintptr
	blocks(reflect.ValueOf(result), &own)
	for _, a := range arguments {
		blocks(reflect.ValueOf(a), &other)
	}
	for i, a := range own {
		for _, b := range slices.Concat(own[:i], other) {
			if a[0] < b[1] && b[0] < a[1] {
				t.Errorf("the result of %s shares memory", name)
				return
			}
		}
	}
}

// P15.1
func TestNew(t *testing.T) {
	for _, clef := range []int{1, 9, 0, -3} {
		want := api.Score{
			Title: "A",
			Parts: []api.Part{{ID: api.ID{Number: 1}, Staves: []api.Staff{{ID: api.ID{Number: 2}, Clef: clef}}}},
			Last:  []api.ID{{Number: 2}},
		}
		s := New("A", clef)
		if !same(s, want) {
			t.Errorf("New(%d) = %v", clef, s)
		}
		fresh(t, "New", s, New("A", clef))
	}
	if s := New("", 1); s.Title != "" || !slices.Equal(IDs(s), []api.ID{{Number: 1}, {Number: 2}}) {
		t.Error(s)
	}
}

// P15.1
func TestStaves(t *testing.T) {
	for _, c := range []struct {
		staves []int
		total  int
		firsts []int
		parts  [][2]int
	}{
		{nil, 0, nil, nil},
		{[]int{1}, 1, []int{0}, [][2]int{{0, 0}}},
		{[]int{2, 1, 3}, 6, []int{0, 2, 3}, [][2]int{{0, 0}, {0, 1}, {1, 0}, {2, 0}, {2, 1}, {2, 2}}},
		{[]int{0, 2, 0, 0, 1, 0}, 3, []int{0, 0, 2, 2, 2, 3}, [][2]int{{1, 0}, {1, 1}, {4, 0}}},
	} {
		s, _ := build(c.staves)
		if n := Staves(s); n != c.total {
			t.Errorf("Staves(%v) = %d", c.staves, n)
		}
		for i, want := range c.firsts {
			if n, e := First(s, i); n != want || e != api.OK {
				t.Errorf("First(%v, %d) = %d, %d", c.staves, i, n, e)
			}
		}
		for i, want := range c.parts {
			if part, index, e := PartOf(s, i); [2]int{part, index} != want || e != api.OK {
				t.Errorf("PartOf(%v, %d) = %d, %d, %d", c.staves, i, part, index, e)
			}
		}
		for _, i := range []int{-1, len(c.staves), len(c.staves) + 1, math.MinInt, math.MaxInt} {
			if n, e := First(s, i); n != 0 || e != api.ErrRange {
				t.Errorf("First(%v, %d) = %d, %d", c.staves, i, n, e)
			}
		}
		for _, i := range []int{-1, c.total, c.total + 1, math.MinInt, math.MaxInt} {
			if part, index, e := PartOf(s, i); part != 0 || index != 0 || e != api.ErrRange {
				t.Errorf("PartOf(%v, %d) = %d, %d, %d", c.staves, i, part, index, e)
			}
		}
	}
}

// odd is a score with empty parts, voices and measures, and cells without staves.
func odd() (api.Score, []Place) {
	s, places := build([]int{1, 0, 2}, "2;1|3|1", "", "1|0;2|2;0;1|1", "0|4|1")
	for i := range 2 {
		slur(&s, id(8), id(9))
		s.Spanners[i].ID = api.ID{Site: 1, Number: len(places) + 1}
		places = append(places, Place{Kind: Spanner, Spanner: i})
	}
	return s, places
}

// P15.2: the order of the objects, and their places.
func TestObjects(t *testing.T) {
	s, places := odd()
	before := bare(s)
	var want []api.ID
	for i, p := range places {
		want = append(want, id(i+1))
		if got, found := Find(s, id(i+1)); got != p || !found {
			t.Errorf("Find(%d) = %v, %t; want %v", i+1, got, found, p)
		}
	}
	if l := IDs(s); !slices.Equal(l, want) {
		t.Errorf("IDs = %v", l)
	}
	if !same(s, before) {
		t.Error("the score has been changed")
	}
	for _, absent := range []api.ID{{}, {Site: 1}, {Number: 1}, {Site: 1, Number: len(places) + 1}, {Site: -1, Number: -1}, {Site: 2, Number: 1}} {
		if p, found := Find(s, absent); p != (Place{}) || found {
			t.Errorf("Find(%v) = %v, %t", absent, p, found)
		}
	}
	if l := IDs(api.Score{}); len(l) != 0 {
		t.Error(l)
	}
	if p, found := Find(api.Score{}, id(1)); p != (Place{}) || found {
		t.Error(p, found)
	}
}

// P15.2: of objects with the same id the first one counts, and the zero id is never found.
func TestFindFirst(t *testing.T) {
	s, places := odd()
	n := len(places)
	ids := []*api.ID{&s.Parts[0].ID, &s.Parts[2].Staves[1].ID, &s.Measures[0].ID, &s.Measures[2].Cells[1].Voices[1].Events[1].ID, &s.Spanners[0].ID}
	var numbers []int
	for _, x := range ids {
		numbers = append(numbers, x.Number)
		*x = id(n + 5)
	}
	for i, x := range ids {
		if p, found := Find(s, id(n+5)); p != places[numbers[i]-1] || !found {
			t.Errorf("%d: %v, %t", i, p, found)
		}
		*x = api.ID{}
	}
	if p, found := Find(s, api.ID{}); p != (Place{}) || found {
		t.Error("the zero id is found:", p)
	}
	if l := IDs(s); l[0] != (api.ID{}) || len(l) != n {
		t.Error(l)
	}
}

// at returns the place of an event.
func at(measure, staff, voice, event int) Place {
	return Place{Kind: Event, Measure: measure, Staff: staff, Voice: voice, Event: event}
}

// noEvents are places at which odd has no event.
var noEvents = []Place{
	at(-1, 0, 0, 0), at(4, 0, 0, 0), at(0, -1, 0, 0), at(0, 3, 0, 0), at(2, 4, 0, 0), at(0, 0, -1, 0), at(0, 0, 2, 0), at(0, 0, 0, -1), at(0, 0, 0, 2),
	at(1, 0, 0, 0), at(1, 1, 0, 0), at(2, 1, 0, 0), at(2, 2, 1, 0), at(2, 2, 0, 2), at(3, 0, 0, 0), at(math.MaxInt, 0, 0, 0), at(math.MinInt, 0, 0, 0),
	at(0, math.MaxInt, 0, 0), at(0, math.MinInt, 0, 0), at(0, 0, math.MaxInt, 0), at(0, 0, math.MinInt, 0), at(0, 0, 0, math.MaxInt), at(0, 0, 0, math.MinInt),
}

// P15.3
func TestEventAt(t *testing.T) {
	s, places := odd()
	before := bare(s)
	for i, p := range places {
		x, e := EventAt(s, p)
		switch {
		case p.Kind != Event:
			if e != api.ErrKind || !same(x, api.Event{}) {
				t.Errorf("EventAt(%v) = %v, %d", p, x, e)
			}
		default:
			if e != api.OK || !same(x, named(id(i+1))) {
				t.Errorf("EventAt(%v) = %v, %d", p, x, e)
			}
			fresh(t, "EventAt", x, s)
			p.Part, p.Spanner = -7, math.MaxInt
			if y, e := EventAt(s, p); e != api.OK || !same(x, y) {
				t.Errorf("EventAt(%v) = %v, %d", p, y, e)
			}
		}
	}
	for _, p := range noEvents {
		if x, e := EventAt(s, p); e != api.ErrRange || !same(x, api.Event{}) {
			t.Errorf("EventAt(%v) = %v, %d", p, x, e)
		}
		if n, e := SetEvent(s, p, named(id(1))); e != api.ErrRange || !same(n, api.Score{}) {
			t.Errorf("SetEvent(%v) = %v, %d", p, n, e)
		}
		// the kind is looked at first
		for _, kind := range []int{0, Part, Staff, Measure, Spanner, 6, -1} {
			p.Kind = kind
			if _, e := EventAt(s, p); e != api.ErrKind {
				t.Errorf("EventAt(%v) = %d", p, e)
			}
			if n, e := SetEvent(s, p, named(id(1))); e != api.ErrKind || !same(n, api.Score{}) {
				t.Errorf("SetEvent(%v) = %v, %d", p, n, e)
			}
		}
	}
	if !same(s, before) {
		t.Error("the score has been changed")
	}
}

// P15.3
func TestSetEvent(t *testing.T) {
	s, _ := odd()
	before := bare(s)
	p := at(2, 2, 0, 1)
	x := named(api.ID{Site: 9, Number: 9})
	n, e := SetEvent(s, Place{Kind: Event, Measure: 2, Staff: 2, Event: 1, Part: -1, Spanner: 99}, x)
	want := bare(s)
	want.Measures[2].Cells[2].Voices[0].Events[1] = bare(x)
	if e != api.OK || !same(n, want) || !same(s, before) {
		t.Errorf("SetEvent = %v, %d; want %v", n, e, want)
	}
	fresh(t, "SetEvent", n, s, x)
	if y, e := EventAt(n, p); e != api.OK || !same(x, y) {
		t.Error(y, e)
	}
	// The spanners lose their ends only if the id is another one.
	for number, left := range map[int]int{8: 2, 1000: 0} {
		x.ID = id(number)
		n, e := SetEvent(s, at(0, 0, 0, 0), x)
		if e != api.OK || len(n.Spanners) != left {
			t.Errorf("SetEvent with the id %d leaves %d spanners", number, len(n.Spanners))
		}
	}
	// A spanner that led nowhere finds its end.
	x.ID = id(500)
	slur(&s, id(8), id(500))
	if n, e := SetEvent(s, at(3, 2, 0, 0), x); e != api.OK || len(n.Spanners) != 3 {
		t.Error(n.Spanners, e)
	}
	if n, e := SetEvent(s, at(3, 2, 0, 0), named(id(499))); e != api.OK || len(n.Spanners) != 2 {
		t.Error(n.Spanners, e)
	}
}

// P15.3: the events of each voice, in order; a list ends where the next measure has no event of the voice.
func TestNext(t *testing.T) {
	s, _ := odd()
	before := bare(s)
	chains := [][]Place{
		{at(0, 0, 0, 0), at(0, 0, 0, 1)},
		{at(0, 0, 1, 0)},
		{at(0, 1, 0, 0), at(0, 1, 0, 1), at(0, 1, 0, 2)},
		{at(0, 2, 0, 0)},
		{at(2, 0, 0, 0)},
		{at(2, 1, 1, 0), at(2, 1, 1, 1)},
		{at(2, 2, 0, 0), at(2, 2, 0, 1), at(3, 2, 0, 0)},
		{at(2, 2, 2, 0)},
		{at(2, 3, 0, 0)},
		{at(3, 1, 0, 0), at(3, 1, 0, 1), at(3, 1, 0, 2), at(3, 1, 0, 3)},
	}
	for _, l := range chains {
		for i, p := range l {
			var next, previous Place
			if i+1 < len(l) {
				next = l[i+1]
			}
			if i > 0 {
				previous = l[i-1]
			}
			for range 2 { // whatever the other indices are
				if q, found := Next(s, p); q != next || found != (i+1 < len(l)) {
					t.Errorf("Next(%v) = %v, %t", p, q, found)
				}
				if q, found := Previous(s, p); q != previous || found != (i > 0) {
					t.Errorf("Previous(%v) = %v, %t", p, q, found)
				}
				p.Part, p.Spanner = 3, -4
			}
		}
	}
	for _, p := range noEvents {
		for _, kind := range []int{Event, 0, Measure, Spanner} {
			p.Kind = kind
			if q, found := Next(s, p); found || q != (Place{}) {
				t.Errorf("Next(%v) = %v", p, q)
			}
			if q, found := Previous(s, p); found || q != (Place{}) {
				t.Errorf("Previous(%v) = %v", p, q)
			}
		}
	}
	// an event is there, but the place is not that of an event
	for _, kind := range []int{0, Part, Staff, Measure, Spanner, 6, -1} {
		p := at(0, 1, 0, 1)
		p.Kind = kind
		q, next := Next(s, p)
		r, previous := Previous(s, p)
		if next || previous || q != (Place{}) || r != (Place{}) {
			t.Errorf("kind %d: %v, %v", kind, q, r)
		}
	}
	if !same(s, before) {
		t.Error("the score has been changed")
	}
}

// P15.3: behind a measure whose voice is absent, another voice begins.
func TestNextGap(t *testing.T) {
	s, _ := build([]int{1}, "1;1", "1", "1;1")
	s.Measures[1].Cells[0].Voices = append(s.Measures[1].Cells[0].Voices, api.Voice{})
	if q, found := Next(s, at(0, 0, 1, 0)); found {
		t.Error(q)
	}
	if q, found := Previous(s, at(2, 0, 1, 0)); found {
		t.Error(q)
	}
	if q, found := Next(s, at(1, 0, 0, 0)); q != at(2, 0, 0, 0) || !found {
		t.Error(q, found)
	}
}
