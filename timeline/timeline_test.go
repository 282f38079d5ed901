package timeline

import (
	"math"
	"reflect"
	"slices"
	"strconv"
	"strings"
	"testing"

	"hemiola/api"
	"hemiola/check"
	"hemiola/duration"
	"hemiola/metre"
	"hemiola/pitch"
	"hemiola/score"
	"hemiola/spanner"
)

const (
	whole   = 1935360
	half    = whole / 2
	quarter = whole / 4
	eighth  = whole / 8
)

// read reads a score: the numbers of staves of its parts, and its measures, which may begin with a metre (otherwise 4/4), and have cells ("|") with voices (";"). The ids are those of score.Renumber.
func read(staves []int, measures ...string) api.Score {
	var s api.Score
	for _, n := range staves {
		s.Parts = append(s.Parts, api.Part{Staves: slices.Repeat([]api.Staff{{Clef: 1}}, n)})
	}
	for _, text := range measures {
		m := api.Measure{Metre: api.Metre{Count: 4, Unit: 4}}
		sign, rest, _ := strings.Cut(text, " ")
		if x, e := metre.Parse(sign); e == api.OK {
			m.Metre, text = x, rest
		}
		for cell := range strings.SplitSeq(text, "|") {
			var c api.Cell
			for v := range strings.SplitSeq(cell, ";") {
				c.Voices = append(c.Voices, readVoice(v))
			}
			m.Cells = append(m.Cells, c)
		}
		s.Measures = append(s.Measures, m)
	}
	return score.Renumber(s)
}

// readVoice reads events like "C4+E4~:8." (heads, which may be tied, and value), "r:4" and "m", and triplets like "( .. )".
func readVoice(text string) api.Voice {
	var v api.Voice
	for _, word := range strings.Fields(text) {
		switch word {
		case "(":
			v.Tuplets = append(v.Tuplets, api.Tuplet{First: len(v.Events), Actual: 3, Normal: 2})
		case ")":
			last := &v.Tuplets[len(v.Tuplets)-1]
			last.Count = len(v.Events) - last.First
		case "m":
			v.Events = append(v.Events, api.Event{Kind: api.MeasureRest})
		default:
			v.Events = append(v.Events, readEvent(word))
		}
	}
	return v
}

func readEvent(word string) api.Event {
	name, value, _ := strings.Cut(word, ":")
	x := api.Event{Kind: api.Rest}
	var e api.Errno
	if x.Value, e = duration.Parse(value); e != api.OK {
		panic(word)
	}
	if name == "r" {
		return x
	}
	x.Kind = api.Chord
	for head := range strings.SplitSeq(name, "+") {
		p, _, e := pitch.Parse(strings.TrimSuffix(head, "~"))
		if e != api.OK {
			panic(word)
		}
		x.Heads = append(x.Heads, api.Head{Pitch: p, Tied: strings.HasSuffix(head, "~")})
	}
	return x
}

// join adds a spanner between events with ids of the site 0.
func join(s *api.Score, kind, from, to int) {
	n := score.Last(*s, 0) + 1
	s.Last[0].Number = n
	s.Spanners = append(s.Spanners, api.Spanner{ID: api.ID{Number: n}, Kind: kind, From: api.ID{Number: from}, To: api.ID{Number: to}})
}

// valid checks that a score is valid, and returns it.
func valid(t *testing.T, s api.Score) api.Score {
	t.Helper()
	if l := check.Check(s); len(l) > 0 {
		t.Fatal(check.Text(l[0]), s)
	}
	return s
}

// P17.1 to P17.5, P1: a score that is not valid is the first error, whatever the other arguments are.
func TestInvalid(t *testing.T) {
	good := valid(t, read([]int{1}, "C4:1"))
	for i, change := range []func(s *api.Score){
		func(s *api.Score) { *s = api.Score{} },
		func(s *api.Score) { s.Title = "\n" },
		func(s *api.Score) { s.Measures[0].Cells = nil },
		func(s *api.Score) { s.Measures[0].Metre.Unit = 3 },
		func(s *api.Score) { s.Measures[0].Cells[0].Voices[0].Events = nil },
		func(s *api.Score) { s.Measures[0].Cells[0].Voices[0].Events[0].Heads[0].Tied = true },
		func(s *api.Score) { join(s, 1, 4, 4) },
		func(s *api.Score) { s.Measures[0].RepeatStart = true },
		func(s *api.Score) { s.Measures[0].Length = math.MinInt },
	} {
		s := score.Clone(good)
		change(&s)
		for _, n := range []int{0, -1, 1, math.MaxInt, math.MinInt} {
			l, e1 := Starts(s)
			a, b, e2 := At(s, n)
			c, e3 := Contexts(s, n)
			h, e4 := HeldInto(s, n, 0)
			h2, e5 := HeldInto(s, 0, n)
			sp, e6 := Spans(s)
			p, e7 := Place(s, api.ID{Number: 4})
			k, e8 := Shift(s, n, 0, 0)
			k2, e9 := Shift(s, 0, n, n)
			notes, e10 := Notes(s)
			for j, e := range []api.Errno{e1, e2, e3, e4, e5, e6, e7, e8, e9, e10} {
				if e != api.ErrRule {
					t.Errorf("%d: function %d returns %d", i, j, e)
				}
			}
			if len(l)+a+b+len(c)+len(h)+len(h2)+len(sp)+k+k2+len(notes) != 0 || p != (spanner.Place{}) {
				t.Errorf("%d: results with ErrRule", i)
			}
		}
	}
}

// P17.1
func TestStarts(t *testing.T) {
	for _, c := range []struct {
		measures []string
		want     []int
	}{
		{[]string{"m"}, []int{0, whole}},
		{[]string{"m", "3/4 m", "2+2+3/8 m", "C4:1", "1/64 m"}, []int{0, whole, 7 * quarter, 21 * eighth, 29 * eighth, 29*eighth + whole/64}},
		{[]string{"5/8 r:2 C4:8 ; m", "6/8 C4:2."}, []int{0, 5 * eighth, 11 * eighth}},
	} {
		s := valid(t, read([]int{1}, c.measures...))
		if l, e := Starts(s); !slices.Equal(l, c.want) || e != api.OK {
			t.Errorf("Starts(%q) = %v, %d; want %v", c.measures, l, e, c.want)
		}
		for i, start := range c.want[1:] {
			for _, x := range []struct{ tick, offset int }{{c.want[i], 0}, {c.want[i] + 1, 1}, {start - 1, start - 1 - c.want[i]}} {
				if m, at, e := At(s, x.tick); m != i || at != x.offset || e != api.OK {
					t.Errorf("At(%q, %d) = %d, %d, %d", c.measures, x.tick, m, at, e)
				}
			}
		}
		end := c.want[len(c.want)-1]
		for _, tick := range []int{-1, end, end + 1, math.MinInt, math.MaxInt} {
			if m, at, e := At(s, tick); m != 0 || at != 0 || e != api.ErrRange {
				t.Errorf("At(%q, %d) = %d, %d, %d", c.measures, tick, m, at, e)
			}
		}
	}
	// lengths that are not those of the metre
	s := read([]int{1}, "m", "m", "m")
	s.Measures[0].Length, s.Measures[2].Length = quarter, 3*whole
	if l, e := Starts(valid(t, s)); !slices.Equal(l, []int{0, quarter, quarter + whole, quarter + 4*whole}) || e != api.OK {
		t.Error(l, e)
	}
}

// P17.2
func TestContexts(t *testing.T) {
	s := read([]int{1, 2}, "C4:1 | m | m", "3/4 m | m | m", "m | m | m", "m | m | m")
	s.Parts[1].Staves[1].Clef = 2
	s.Parts[1].Transpose = api.Interval{Steps: 1, Semitones: 2}
	changes := func(measure, staff int, l ...int) {
		for i := 0; i < len(l); i += 2 {
			c := &s.Measures[measure].Cells[staff].Clefs
			*c = append(*c, api.ClefChange{At: l[i], Clef: l[i+1]})
		}
	}
	changes(0, 1, 1, 5, whole-1, 6)
	changes(2, 1, 0, 7)
	changes(1, 2, 0, 3, quarter, 4)
	for i, n := range []int{0, -2, 5, 7} {
		s.Measures[i].Fifths = n
	}
	valid(t, s)
	four, three := api.Metre{Count: 4, Unit: 4}, api.Metre{Count: 3, Unit: 4}
	metres := []api.Metre{four, three, four, four}
	for staff, want := range [][]int{{1, 1, 1, 1}, {1, 6, 7, 7}, {2, 3, 4, 4}} {
		for _, written := range []bool{false, true} {
			s.Written = written
			fifths := []int{0, -2, 5, 7}
			if written && staff > 0 {
				fifths = []int{2, 0, 7, -3}
			}
			var l []Context
			for i := range want {
				l = append(l, Context{Clef: want[i], Fifths: fifths[i], Metre: metres[i]})
			}
			if got, e := Contexts(s, staff); !slices.Equal(got, l) || e != api.OK {
				t.Errorf("Contexts(%d) = %v, %d; want %v", staff, got, e, l)
			}
		}
	}
	for _, staff := range []int{-1, 3, 4, math.MinInt, math.MaxInt} {
		if l, e := Contexts(s, staff); len(l) != 0 || e != api.ErrRange {
			t.Errorf("Contexts(%d) = %v, %d", staff, l, e)
		}
	}
}

// heldTexts are texts like "0 C4".
func heldTexts(l []Held) string {
	var words []string
	for _, h := range l {
		name, _ := pitch.Name(h.Pitch)
		words = append(words, strconv.Itoa(h.Voice)+" "+name)
	}
	return strings.Join(words, ", ")
}

// P17.3
func TestHeldInto(t *testing.T) {
	s := valid(t, read([]int{1, 1},
		"C4:2 C4~+E4+G4~:2 ; A3~+B3~:1 | C4~:2 C4:2",
		"C4~+G4:2 C4:2 ; A3+B3:2 C4~:2 | m",
		"C4:1 ; C4:1 | r:2 D4~:2",
		"m | D4:1"))
	for i, want := range [][]string{{"", ""}, {"0 C4, 0 G4, 1 A3, 1 B3", ""}, {"1 C4", ""}, {"", "0 D4"}} {
		for staff, text := range want {
			if l, e := HeldInto(s, i, staff); heldTexts(l) != text || e != api.OK {
				t.Errorf("HeldInto(%d, %d) = %v, %d", i, staff, heldTexts(l), e)
			}
		}
	}
	for _, c := range [][2]int{{-1, 0}, {4, 0}, {0, -1}, {0, 2}, {1, 2}, {math.MaxInt, 0}, {math.MinInt, 0}, {1, math.MaxInt}, {1, math.MinInt}} {
		if l, e := HeldInto(s, c[0], c[1]); len(l) != 0 || e != api.ErrRange {
			t.Errorf("HeldInto(%v) = %v, %d", c, l, e)
		}
	}
}

// spanned is a score of two staves: a measure with the events 0 to 3 (a triplet and a half note) and 4 in two voices, and 5, 6 in the second staff, and one with 8 and 9, and 10, counted from the first event on.
func spanned() api.Score {
	return read([]int{1, 1}, "( C4:4 C4:4 C4:4 ) C4:2 ; C4:1 | C4:4 C4:2.", "C4:2 C4:2 | C4:1")
}

// P17.4
func TestSpans(t *testing.T) {
	s := spanned()
	if l, e := Spans(valid(t, s)); len(l) != 0 || e != api.OK {
		t.Error(l, e)
	}
	first := eventIDs(s)[0].Number
	place := func(measure, at, staff, voice int) spanner.Place {
		return spanner.Place{Measure: measure, At: at, Staff: staff, Voice: voice}
	}
	const third = quarter * 2 / 3
	places := map[int]spanner.Place{
		0: place(0, 0, 0, 0), 1: place(0, third, 0, 0), 2: place(0, 2*third, 0, 0), 3: place(0, half, 0, 0), 4: place(0, 0, 0, 1), 5: place(0, 0, 1, 0), 6: place(0, quarter, 1, 0),
		8: place(1, 0, 0, 0), 9: place(1, half, 0, 0), 10: place(1, 0, 1, 0),
	}
	for i, want := range places {
		if p, e := Place(s, api.ID{Number: first + i}); p != want || e != api.OK {
			t.Errorf("Place(%d) = %v, %d; want %v", first+i, p, e, want)
		}
	}
	var want []spanner.Span
	for _, x := range [][3]int{{api.Slur, 1, 9}, {api.Pedal, 4, 8}, {api.Diminuendo, 5, 10}, {api.OctaveDown, 2, 3}, {api.Crescendo, 0, 3}} {
		join(&s, x[0], first+x[1], first+x[2])
		want = append(want, spanner.Span{Kind: x[0], From: places[x[1]], To: places[x[2]]})
	}
	before := score.Clone(s)
	if l, e := Spans(valid(t, s)); !slices.Equal(l, want) || e != api.OK {
		t.Errorf("Spans = %v, %d; want %v", l, e, want)
	}
	none := []api.ID{{}, {Number: 1}, {Number: 2}, {Number: first - 1}, {Number: first + 7}, s.Spanners[0].ID, {Site: 1, Number: first}, {Number: -1}, {Number: math.MaxInt}}
	for _, id := range none {
		if p, e := Place(s, id); p != (spanner.Place{}) || e != api.ErrNotFound {
			t.Errorf("Place(%v) = %v, %d", id, p, e)
		}
	}
	if !score.Equal(before, s) {
		t.Error("the score has been changed")
	}
}

// eventIDs are the ids of all events, in order.
func eventIDs(s api.Score) []api.ID {
	var l []api.ID
	for _, m := range s.Measures {
		for _, c := range m.Cells {
			for _, v := range c.Voices {
				for _, x := range v.Events {
					l = append(l, x.ID)
				}
			}
		}
	}
	return l
}

// P17.4
func TestShift(t *testing.T) {
	s := spanned()
	first := eventIDs(s)[0].Number
	join(&s, api.OctaveUp, first+3, first+8)   // from the middle of the first measure to the second one
	join(&s, api.OctaveDown, first+5, first+6) // in the second staff
	join(&s, api.Slur, first, first+9)
	valid(t, s)
	for _, c := range []struct{ measure, staff, tick, want int }{
		{0, 0, 0, 0}, {0, 0, half - 1, 0}, {0, 0, half, -7}, {0, 0, half + 1, -7}, {0, 0, whole - 1, -7}, {1, 0, 0, -7}, {1, 0, 1, 0}, {1, 0, whole - 1, 0},
		{0, 1, 0, 7}, {0, 1, quarter, 7}, {0, 1, quarter + 1, 0}, {1, 1, 0, 0},
	} {
		if n, e := Shift(s, c.measure, c.staff, c.tick); n != c.want || e != api.OK {
			t.Errorf("Shift(%v) = %d, %d", c, n, e)
		}
	}
	for _, c := range [][3]int{{-1, 0, 0}, {2, 0, 0}, {0, -1, 0}, {0, 2, 0}, {0, 0, -1}, {0, 0, whole}, {1, 1, whole + 1}, {0, 0, math.MaxInt}, {0, 0, math.MinInt}, {math.MaxInt, 0, 0}, {0, math.MinInt, 0}} {
		if n, e := Shift(s, c[0], c[1], c[2]); n != 0 || e != api.ErrRange {
			t.Errorf("Shift(%v) = %d, %d", c, n, e)
		}
	}
	// the tick must lie in its own measure
	s = valid(t, read([]int{1}, "2/4 m", "m"))
	if _, e := Shift(s, 0, 0, half); e != api.ErrRange {
		t.Error(e)
	}
	if _, e := Shift(s, 1, 0, half); e != api.OK {
		t.Error(e)
	}
}

// note is a note of the first part, its event counted from that with the id @0.4 on.
func note(on, off, number, voice, event, head int) api.Note {
	return api.Note{On: on, Off: off, Number: number, Voice: voice, Event: api.ID{Number: 4 + event}, Head: head}
}

// P17.5
func TestNotes(t *testing.T) {
	for _, c := range []struct {
		measures []string
		want     []api.Note
	}{
		{[]string{"m"}, nil}, {[]string{"r:1", "m"}, nil},
		// example 1
		{[]string{"C4~:2 C4:4 r:4"}, []api.Note{note(0, 1451520, 60, 0, 0, 0)}},
		{[]string{"C4:2 C4:2"}, []api.Note{note(0, half, 60, 0, 0, 0), note(half, whole, 60, 0, 1, 0)}},
		{[]string{"C4+Eb4+G4:1"}, []api.Note{note(0, whole, 60, 0, 0, 0), note(0, whole, 63, 0, 0, 1), note(0, whole, 67, 0, 0, 2)}},
		// some heads are tied, and one that is held is tied on
		{[]string{"C4+E4~:4 D4+E4~:4 E4+F4~:4 E4+F4:4"}, []api.Note{note(0, quarter, 60, 0, 0, 0), note(0, 3*quarter, 64, 0, 0, 1), note(quarter, half, 62, 0, 1, 0), note(half, whole, 65, 0, 2, 1), note(3*quarter, whole, 64, 0, 3, 0)}},
		// over barlines
		{[]string{"r:2 C4~:2", "C4~:1", "C4:4 C4:2."}, []api.Note{note(half, 2*whole+quarter, 60, 0, 1, 0), note(2*whole+quarter, 3*whole, 60, 0, 6, 0)}},
		// voices on their own
		{[]string{"C4~:2 C4:2 ; C4:2 C4~:2", "C4:1 ; C4:1"}, []api.Note{note(0, whole, 60, 0, 0, 0), note(0, half, 60, 1, 2, 0), note(half, 2*whole, 60, 1, 3, 0), note(whole, 2*whole, 60, 0, 5, 0)}},
		// the same number, spelled in another way, is not tied
		{[]string{"C#4:2 Db4~:2", "Db4:1"}, []api.Note{note(0, half, 61, 0, 0, 0), note(half, 2*whole, 61, 0, 1, 0)}},
		{[]string{"( C4:4 C4~:4 C4:4 ) C4:2"}, []api.Note{note(0, half/3, 60, 0, 0, 0), note(half/3, half, 60, 0, 1, 0), note(half, whole, 60, 0, 3, 0)}},
		// in the order of numbers, then of voices
		{[]string{"E4:1 ; C4+E4:1"}, []api.Note{note(0, whole, 60, 1, 1, 0), note(0, whole, 64, 0, 0, 0), note(0, whole, 64, 1, 1, 1)}},
	} {
		s := valid(t, read([]int{1}, c.measures...))
		before := score.Clone(s)
		if l, e := Notes(s); !slices.Equal(l, c.want) || e != api.OK {
			t.Errorf("Notes(%q) = %v, %d; want %v", c.measures, l, e, c.want)
		}
		if !score.Equal(before, s) {
			t.Error("the score has been changed")
		}
	}
}

// P17.5: parts, their staves, and pitches as they are written.
func TestNotesOfParts(t *testing.T) {
	s := read([]int{1, 2, 1}, "D4~:2 D4:2 | m | D4:1 | D4:1", "m | D4:1 | m | m")
	s.Parts[0].Transpose = api.Interval{Steps: 1, Semitones: 2} // example 2
	s.Parts[1].Transpose = api.Interval{Steps: -7, Semitones: -12}
	s.Measures[1].Cells[1].Voices[0].Events[0].Graces = []api.Grace{{Pitch: api.Pitch{Octave: 4}, Log: 3}}
	for _, written := range []bool{false, true} {
		s.Written = written
		numbers := map[bool][]int{false: {62, 62, 62, 62}, true: {60, 74, 62, 74}}[written]
		l, e := Notes(valid(t, s))
		want := []api.Note{
			{On: 0, Off: whole, Number: numbers[0], Part: 0, Event: s.Measures[0].Cells[0].Voices[0].Events[0].ID},
			{On: 0, Off: whole, Number: numbers[1], Part: 1, Staff: 1, Event: s.Measures[0].Cells[2].Voices[0].Events[0].ID},
			{On: 0, Off: whole, Number: numbers[2], Part: 2, Event: s.Measures[0].Cells[3].Voices[0].Events[0].ID},
			{On: whole, Off: 2 * whole, Number: numbers[3], Part: 1, Event: s.Measures[1].Cells[1].Voices[0].Events[0].ID},
		}
		if !slices.Equal(l, Sort(want)) || e != api.OK {
			t.Errorf("Notes = %v, %d; want %v", l, e, want)
		}
	}
	if c, e := Contexts(s, 0); e != api.OK || c[0].Fifths != 2 {
		t.Error(c, e)
	}
}

// P17.6
func TestSounding(t *testing.T) {
	l := []api.Note{{On: 5, Off: 9, Number: 1, Part: 2}, {On: 0, Off: 5, Part: 1}, {On: 4, Off: 6, Number: 2, Part: 2}, {On: 4, Off: 4}, {On: 7, Off: 3, Part: -1}, {On: 4, Off: 6, Number: 2, Part: 2}}
	before := slices.Clone(l)
	for tick, want := range map[int][]int{-1: nil, 0: {1}, 4: {1, 2, 5}, 5: {0, 2, 5}, 6: {0}, 8: {0}, 9: nil, math.MinInt: nil, math.MaxInt: nil} {
		if got := Sounding(l, tick); !slices.Equal(got, pick(l, want)) {
			t.Errorf("Sounding(%d) = %v", tick, got)
		}
	}
	for part, want := range map[int][]int{0: {3}, 1: {1}, 2: {0, 2, 5}, -1: {4}, 3: nil, math.MaxInt: nil} {
		if got := Part(l, part); !slices.Equal(got, pick(l, want)) {
			t.Errorf("Part(%d) = %v", part, got)
		}
	}
	for i, got := range [][]api.Note{Part(l, 2), Sounding(l, 5), Sort(l)} {
		got[0].On = 77
		if !slices.Equal(before, l) {
			t.Errorf("%d shares memory with its argument, or has changed it", i)
		}
	}
	if len(Sounding(nil, 0)) != 0 || len(Part(nil, 0)) != 0 || len(Sort(nil)) != 0 {
		t.Error("notes of nothing")
	}
}

// pick returns the elements with some indices.
func pick(l []api.Note, indices []int) []api.Note {
	var out []api.Note
	for _, i := range indices {
		out = append(out, l[i])
	}
	return out
}

// P17.6: each field decides if those before it are equal.
func TestCompare(t *testing.T) {
	fields := []func(n *api.Note) *int{
		func(n *api.Note) *int { return &n.On }, func(n *api.Note) *int { return &n.Number }, func(n *api.Note) *int { return &n.Part }, func(n *api.Note) *int { return &n.Staff }, func(n *api.Note) *int { return &n.Voice },
		func(n *api.Note) *int { return &n.Off }, func(n *api.Note) *int { return &n.Event.Site }, func(n *api.Note) *int { return &n.Event.Number }, func(n *api.Note) *int { return &n.Head },
	}
	if reflect.TypeOf(api.Note{}).NumField()+1 != len(fields) {
		t.Fatal("a field is missing")
	}
	for i, field := range fields {
		for _, pair := range [][2]int{{0, 1}, {-1, 0}, {math.MinInt, math.MaxInt}, {math.MinInt, 1}, {-1, math.MaxInt}} {
			var a, b api.Note
			*field(&a), *field(&b) = pair[0], pair[1]
			for _, later := range fields[i+1:] {
				*later(&a), *later(&b) = 9, -9
			}
			if Compare(a, b) != -1 || Compare(b, a) != 1 || Compare(a, a) != 0 || Compare(b, b) != 0 {
				t.Errorf("field %d: %v, %v", i, a, b)
			}
			if l := Sort([]api.Note{b, a, b}); !slices.Equal(l, []api.Note{a, b, b}) {
				t.Errorf("Sort = %v", l)
			}
		}
	}
}

// P17.7
func TestSameSound(t *testing.T) {
	n := func(on, off, number int) api.Note {
		return api.Note{On: on, Off: off, Number: number, Part: on, Staff: off, Voice: 1, Event: api.ID{Number: number}, Head: 3}
	}
	a, b, c := n(0, 5, 60), n(0, 5, 64), n(5, 6, 60)
	other := func(x api.Note) api.Note { return api.Note{On: x.On, Off: x.Off, Number: x.Number, Part: 7} }
	for i, x := range []struct {
		a, b []api.Note
		want bool
	}{
		{nil, nil, true}, {nil, []api.Note{}, true}, {[]api.Note{a}, nil, false}, {[]api.Note{a}, []api.Note{a}, true},
		{[]api.Note{a, b, c}, []api.Note{c, a, b}, true}, {[]api.Note{a, b}, []api.Note{a, c}, false},
		{[]api.Note{a, a, b}, []api.Note{a, b, a}, true}, {[]api.Note{a, a, b}, []api.Note{a, b, b}, false}, {[]api.Note{a, a}, []api.Note{a}, false},
		{[]api.Note{a, b, c}, []api.Note{other(b), other(c), other(a)}, true},
		{[]api.Note{n(0, 5, 60), n(0, 6, 64)}, []api.Note{n(0, 6, 60), n(0, 5, 64)}, false},
		{[]api.Note{n(0, 5, 60), n(1, 5, 64)}, []api.Note{n(1, 5, 60), n(0, 5, 64)}, false},
		{[]api.Note{n(0, 5, 60), n(0, 6, 60)}, []api.Note{other(n(0, 6, 60)), other(n(0, 5, 60))}, true},
		{[]api.Note{n(0, 5, 60)}, []api.Note{n(0, 5, 61)}, false}, {[]api.Note{n(0, 5, 60)}, []api.Note{n(1, 5, 60)}, false}, {[]api.Note{n(0, 5, 60)}, []api.Note{n(0, 4, 60)}, false},
	} {
		before := [2][]api.Note{slices.Clone(x.a), slices.Clone(x.b)}
		if SameSound(x.a, x.b) != x.want || SameSound(x.b, x.a) != x.want {
			t.Errorf("%d: SameSound is not %t", i, x.want)
		}
		if !slices.Equal(before[0], x.a) || !slices.Equal(before[1], x.b) {
			t.Errorf("%d: an argument has been changed", i)
		}
	}
}
