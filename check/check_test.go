package check

import (
	"math"
	"reflect"
	"slices"
	"strconv"
	"strings"
	"testing"

	"hemiola/api"
	"hemiola/duration"
	"hemiola/measure"
	"hemiola/metre"
	"hemiola/pitch"
	"hemiola/score"
)

const (
	whole   = 1935360
	quarter = whole / 4
	finest  = 7560
)

// read reads a score: the numbers of staves of its parts, and its measures, which may begin with a metre (otherwise 4/4), and have cells ("|") with voices (";"). The ids are those of score.Renumber.
func read(staves []int, measures ...string) api.Score {
	s := api.Score{Title: "read"}
	for _, n := range staves {
		s.Parts = append(s.Parts, api.Part{Name: "part", Staves: slices.Repeat([]api.Staff{{Clef: 1}}, n)})
	}
	for _, text := range measures {
		m := api.Measure{Metre: api.Metre{Count: 4, Unit: 4}}
		sign, rest, _ := strings.Cut(text, " ")
		if x, e := metre.Parse(sign); e == api.OK {
			m.Metre, text = x, rest
		}
		for cell := range strings.SplitSeq(text, "|") {
			var c api.Cell
			for v := range strings.SplitSeq(cell, ";") {
				c.Voices = append(c.Voices, readVoice(v))
			}
			m.Cells = append(m.Cells, c)
		}
		s.Measures = append(s.Measures, m)
	}
	return score.Renumber(s)
}

// readVoice reads events like "C4+E4~:8.'la-'_" (heads, which may be tied, value, and a syllable for each verse), "r:4", "s:4" and "m", and tuplets like "3/2( .. )".
func readVoice(text string) api.Voice {
	var v api.Voice
	var open []int
	for _, word := range strings.Fields(text) {
		switch {
		case word == ")":
			t := &v.Tuplets[open[len(open)-1]]
			t.Count = len(v.Events) - t.First
			open = open[:len(open)-1]
		case strings.HasSuffix(word, "("):
			actual, normal, _ := strings.Cut(strings.TrimSuffix(word, "("), "/")
			open = append(open, len(v.Tuplets))
			v.Tuplets = append(v.Tuplets, api.Tuplet{First: len(v.Events), Actual: number(actual), Normal: number(normal)})
		default:
			v.Events = append(v.Events, readEvent(word))
		}
	}
	return v
}

func number(s string) int {
	n, e := strconv.Atoi(s)
	if e != nil {
		panic(s)
	}
	return n
}

func readEvent(word string) api.Event {
	verses := strings.Split(word, "'")
	x := api.Event{Lyrics: lyrics(verses[1:]...)}
	name, value, _ := strings.Cut(verses[0], ":")
	if name != "m" {
		v, e := duration.Parse(value)
		if e != api.OK {
			panic(word)
		}
		x.Value = v
	}
	x.Kind = map[string]int{"m": api.MeasureRest, "r": api.Rest, "s": api.Skip}[name]
	if x.Kind != 0 {
		return x
	}
	x.Kind = api.Chord
	for head := range strings.SplitSeq(name, "+") {
		p, _, e := pitch.Parse(strings.TrimSuffix(head, "~"))
		if e != api.OK {
			panic(word)
		}
		x.Heads = append(x.Heads, api.Head{Pitch: p, Tied: strings.HasSuffix(head, "~")})
	}
	return x
}

// lyrics are syllables like "la", "la-", "la_" and "_"; an empty one is absent.
func lyrics(l ...string) []api.Syllable {
	var out []api.Syllable
	for _, s := range l {
		text := strings.TrimRight(s, "-_")
		out = append(out, api.Syllable{Text: text, Link: map[string]int{"-": api.Hyphen, "_": api.Extender}[s[len(text):]]})
	}
	return out
}

// base is a valid score: parts @0.1 with the staves 2 and 3, and @0.4 with the staff 5, and the measures 6 (events 7 to 11), 12 (13 to 16) and 17 (18 to 23).
func base() api.Score {
	return read([]int{2, 1}, "C4:2 D4:2 | m | G3:1 ; r:1", "E4:1 | C3:2 r:2 | m", "2/4 F4:4 s:4 | C3:2 | 3/2( C3:4 C3:4 C3:4 )")
}

// events are all events, in order.
func events(s *api.Score) []*api.Event {
	var l []*api.Event
	for _, m := range s.Measures {
		for _, c := range m.Cells {
			for _, v := range c.Voices {
				for i := range v.Events {
					l = append(l, &v.Events[i])
				}
			}
		}
	}
	return l
}

// eventOf is the event of base with a number.
func eventOf(s *api.Score, n int) *api.Event {
	for _, x := range events(s) {
		if x.ID == (api.ID{Number: n}) {
			return x
		}
	}
	panic(n)
}

// voiceOf is a voice of a score.
func voiceOf(s *api.Score, measure, staff, voice int) *api.Voice {
	return &s.Measures[measure].Cells[staff].Voices[voice]
}

// join adds a spanner between events, with the next number.
func join(s *api.Score, kind, from, to int) {
	n := score.Last(*s, 0) + 1
	s.Last[0].Number = n
	s.Spanners = append(s.Spanners, api.Spanner{ID: api.ID{Number: n}, Kind: kind, From: api.ID{Number: from}, To: api.ID{Number: to}})
}

// texts are the texts of violations.
func texts(l []api.Violation) string {
	var words []string
	for _, v := range l {
		words = append(words, Text(v))
	}
	return strings.Join(words, ", ")
}

// variant is a change of a valid score, and what it violates then.
type variant struct {
	name   string
	change func(s *api.Score)
	want   string
}

// try checks the violations of variants of a score.
func try(t *testing.T, original func() api.Score, l []variant) {
	t.Helper()
	for _, x := range l {
		s := original()
		x.change(&s)
		before := score.Clone(s)
		got := Check(s)
		if texts(got) != x.want {
			t.Errorf("%s: %q; want %q", x.name, texts(got), x.want)
		}
		if Valid(s) != (x.want == "") {
			t.Errorf("%s: Valid is %t", x.name, !Valid(s))
		}
		if !reflect.DeepEqual(s, before) && !score.Equal(s, before) {
			t.Errorf("%s: the score has been changed", x.name)
		}
	}
}

// set returns a change that sets a value of a score.
func set[T any](field func(s *api.Score) *T, value T) func(s *api.Score) {
	return func(s *api.Score) { *field(s) = value }
}

// then returns a change that makes some changes one after another.
func then(l ...func(s *api.Score)) func(s *api.Score) {
	return func(s *api.Score) {
		for _, change := range l {
			change(s)
		}
	}
}

// P16.1, P16.2: examples and scores without violations.
func TestExamples(t *testing.T) {
	s := score.New("A", 1)
	m, _ := measure.Blank(api.Metre{Count: 4, Unit: 4}, 0, 0, 1)
	s.Measures = append(s.Measures, m)
	s = score.Renumber(s)
	if l := Check(s); len(l) != 0 || !Valid(s) {
		t.Error(texts(l))
	}
	if v, found := First(s); found || v != (api.Violation{}) {
		t.Error(v, found)
	}
	s.Parts[0].Staves[0].Clef = 10
	if l := Check(s); texts(l) != "clefs @0.2" || Valid(s) {
		t.Error(texts(l))
	}
	if v, found := First(s); !found || v != (api.Violation{Rule: Clefs, Object: api.ID{Number: 2}}) {
		t.Error(v, found)
	}
	try(t, base, []variant{{"base", func(s *api.Score) {}, ""}})
	duo := read([]int{1}, "3/4 3/2( G4:8 A4:8 B4:8 ) C5+E5:4 r:4")
	duo.Measures[0].Fifths = 1
	if l := Check(duo); len(l) != 0 {
		t.Error(texts(l))
	}
	if l := Check(api.Score{}); !slices.Equal(l, []api.Violation{{Rule: Limits}}) {
		t.Error(l)
	}
}

// P16.1: the rule limits. Only it is looked at if it is violated.
func TestLimits(t *testing.T) {
	title := func(s *api.Score) *string { return &s.Title }
	name := func(s *api.Score) *string { return &s.Parts[1].Name }
	mark := func(s *api.Score) *string { return &s.Measures[2].Rehearsal }
	transpose := func(s *api.Score) *api.Interval { return &s.Parts[0].Transpose }
	long := strings.Repeat("é", 128)
	var l []variant
	for _, x := range []struct {
		name   string
		field  func(s *api.Score) *string
		wanted string
	}{{"title", title, "limits"}, {"name", name, "limits @0.4"}, {"rehearsal", mark, "limits @0.17"}} {
		for _, good := range []string{"", " ~", long, "\x80\xff", strings.Repeat("x", 256)} {
			l = append(l, variant{x.name + strconv.Quote(good), set(x.field, good), ""})
		}
		for _, bad := range []string{long + "x", strings.Repeat("x", 257), "a\x00", "\x1f", "a\nb", "\x7f", long[:200] + "\x7f"} {
			l = append(l, variant{x.name + strconv.Quote(bad), set(x.field, bad), x.wanted})
		}
	}
	for i, good := range []api.Interval{{Steps: 77}, {Steps: -77}} {
		l = append(l, variant{"transpose " + strconv.Itoa(i), set(transpose, good), ""})
	}
	for i, bad := range []api.Interval{{Steps: 78}, {Steps: -78}, {Semitones: 141}, {Semitones: -141}, {Steps: math.MinInt}, {Semitones: math.MaxInt}} {
		l = append(l, variant{"no transpose " + strconv.Itoa(i), set(transpose, bad), "limits @0.1"})
	}
	l = append(l,
		variant{"no parts", func(s *api.Score) { s.Parts = nil }, "limits"},
		variant{"no measures", func(s *api.Score) { s.Measures = nil }, "limits"},
		variant{"no staves", func(s *api.Score) { s.Parts[0].Staves = nil }, "limits @0.1"},
		variant{"five staves", func(s *api.Score) { s.Parts[1].Staves = make([]api.Staff, 5) }, "limits @0.4"},
		variant{"all at once", func(s *api.Score) {
			*s = score.Clone(*s)
			s.Title, s.Parts[1].Name, s.Parts[0].Name, s.Measures[1].Rehearsal = "\n", "\n", "\n", "\n"
			s.Parts[0].Staves[0].Clef, s.Measures[0].Fifths, s.Last, s.Measures[2].Cells = 10, 8, nil, nil
		}, "limits @0.1, limits @0.4, limits @0.12, limits"},
	)
	try(t, base, l)
}

// P16.1: as many as permitted, and one more.
func TestLimitsMany(t *testing.T) {
	rest := func(parts, staves, measures int) func(s *api.Score) {
		return func(s *api.Score) {
			cells := strings.TrimSuffix(strings.Repeat("m|", parts*staves), "|")
			*s = read(slices.Repeat([]int{staves}, parts), slices.Repeat([]string{cells}, measures)...)
		}
	}
	voices := func(n int) func(s *api.Score) {
		return func(s *api.Score) {
			*s = read([]int{1}, strings.TrimSuffix(strings.Repeat("r:1;", n), ";"))
		}
	}
	notes := func(n int) func(s *api.Score) {
		return func(s *api.Score) { *s = read([]int{1}, "8/1 r:1 "+strings.Repeat("r:16 ", n-2)+"r:16") }
	}
	tuplets := func(n int) func(s *api.Score) {
		return func(s *api.Score) {
			*s = read([]int{1}, "r:1 ; "+strings.Repeat("3/2( C4:64 C4:64 C4:64 ) ", n), "r:1")
			s.Measures[0].Metre.Count, s.Measures[0].Metre.Unit = n, 32
			voiceOf(s, 0, 0, 0).Events = []api.Event{{ID: api.ID{Number: 4}, Kind: api.MeasureRest}}
		}
	}
	marks := func(n int) func(s *api.Score) {
		return func(s *api.Score) {
			for i := range n {
				s.Measures[1].Tempi = append(s.Measures[1].Tempi, api.TempoMark{At: i, Micros: 1})
			}
		}
	}
	clefs := func(n int) func(s *api.Score) {
		return func(s *api.Score) {
			for i := range n {
				s.Measures[1].Cells[2].Clefs = append(s.Measures[1].Cells[2].Clefs, api.ClefChange{At: i, Clef: 9})
			}
		}
	}
	slurs := func(n int) func(s *api.Score) {
		return func(s *api.Score) {
			*s = read([]int{1}, slices.Repeat([]string{"8/1 " + strings.Repeat("r:16 ", 128)}, 34)...)
			l := events(s)
			for i := range n {
				join(s, api.Slur, l[i].ID.Number, l[i+1].ID.Number)
			}
		}
	}
	last := func(n int) func(s *api.Score) {
		return func(s *api.Score) {
			for i := 1; i < n; i++ {
				s.Last = append(s.Last, api.ID{Site: i, Number: i})
			}
		}
	}
	try(t, base, []variant{
		{"32 parts", rest(32, 1, 1), ""}, {"33 parts", rest(33, 1, 1), "limits"},
		{"4 staves", rest(32, 4, 1), ""}, {"5 staves", rest(1, 5, 1), "limits @0.1"},
		{"1024 measures", rest(1, 1, 1024), ""}, {"1025 measures", rest(1, 1, 1025), "limits"},
		{"2 voices", voices(2), ""}, {"3 voices", voices(3), "limits @0.3"},
		{"128 events", notes(128), "voices @0.3"}, {"129 events", notes(129), "limits @0.3"},
		{"16 tuplets", tuplets(16), ""}, {"17 tuplets", tuplets(17), "limits @0.3"},
		{"64 tempo marks", marks(64), ""}, {"65 tempo marks", marks(65), "limits @0.12"},
		{"64 clef changes", clefs(64), ""}, {"65 clef changes", clefs(65), "limits @0.12"},
		{"4096 spanners", slurs(4096), ""}, {"4097 spanners", slurs(4097), "limits"},
		{"100 sites", last(100), ""}, {"101 sites", last(101), "limits"},
	})
}

// P16.1: the rule ids.
func TestIds(t *testing.T) {
	part := func(s *api.Score) *api.ID { return &s.Parts[0].ID }
	staff := func(s *api.Score) *api.ID { return &s.Parts[1].Staves[0].ID }
	bar := func(s *api.Score) *api.ID { return &s.Measures[1].ID }
	note := func(s *api.Score) *api.ID { return &s.Measures[2].Cells[1].Voices[0].Events[0].ID }
	line := func(s *api.Score) *api.ID {
		if len(s.Spanners) == 0 {
			join(s, api.Slur, 7, 8)
		}
		return &s.Spanners[0].ID
	}
	last := func(l ...int) func(s *api.Score) {
		return func(s *api.Score) {
			s.Last = nil
			for i := 0; i < len(l); i += 2 {
				s.Last = append(s.Last, api.ID{Site: l[i], Number: l[i+1]})
			}
		}
	}
	var l []variant
	for i, field := range []func(s *api.Score) *api.ID{part, staff, bar, note, line} {
		for _, bad := range []api.ID{{}, {Site: -1, Number: 1}, {Site: 100, Number: 1}, {Number: -1}, {Site: 5}, {Number: 1<<30 + 1}, {Number: 100}, {Site: 1, Number: 1}, {Site: math.MinInt, Number: math.MinInt}, {Site: math.MaxInt, Number: math.MaxInt}} {
			want := Text(api.Violation{Rule: Ids, Object: bad})
			if i == 3 && (bad.Site < 0 || bad.Site > 99 || bad.Number < 0 || bad.Number > 1<<30) {
				want += ", " + Text(api.Violation{Rule: Events, Object: bad}) // event.Check looks at ids, too
			}
			l = append(l, variant{strconv.Itoa(i) + " " + want, set(field, bad), want})
		}
	}
	l = append(l,
		variant{"part and staff", set(staff, api.ID{Number: 1}), "ids @0.1"},
		variant{"measure and event", set(bar, api.ID{Number: 7}), "ids @0.7"},
		variant{"event and staff", set(note, api.ID{Number: 3}), "ids @0.3"},
		variant{"spanner and measure", set(line, api.ID{Number: 12}), "ids @0.12"},
		variant{"three", func(s *api.Score) {
			*part(s), *bar(s), *note(s) = api.ID{Number: 8}, api.ID{Number: 8}, api.ID{Number: 8}
		}, "ids @0.8, ids @0.8, ids @0.8"},
		variant{"twice what is none", func(s *api.Score) { *part(s), *note(s) = api.ID{}, api.ID{} }, "ids, ids"},
		variant{"other sites", func(s *api.Score) {
			*part(s), *note(s) = api.ID{Site: 99, Number: 1 << 30}, api.ID{Site: 7, Number: 3}
			last(0, 23, 7, 3, 99, 1<<30)(s)
		}, ""},
		variant{"greater than the last one", func(s *api.Score) {
			*part(s), *note(s) = api.ID{Site: 99, Number: 5}, api.ID{Site: 7, Number: 4}
			last(0, 22, 7, 3, 99, 4)(s)
		}, "ids @99.5, ids @7.4, ids @0.23"},
		variant{"no last one", func(s *api.Score) {
			*s = read([]int{1}, "m")
			s.Last = nil
		}, "ids @0.1, ids @0.2, ids @0.3, ids @0.4"},
		variant{"equal sites", last(0, 23, 0, 23), "ids"},
		variant{"the first of equal sites counts", last(0, 20, 0, 23), "ids @0.21, ids @0.22, ids @0.23, ids"},
		variant{"decreasing sites", last(2, 1, 0, 23), "ids"},
		variant{"a site that is none", last(0, 23, 100, 1), "ids"},
		variant{"a negative site", last(-1, 1, 0, 23), "ids"},
		variant{"no number", last(0, 23, 4, 0), "ids"},
		variant{"a negative number", last(0, 23, 4, -3), "ids"},
		variant{"too great a number", last(0, 1<<30+1), "ids"},
		variant{"the greatest number", last(0, 1<<30, 99, 1<<30), ""},
		variant{"with later rules", func(s *api.Score) { *bar(s), s.Measures[1].Fifths = api.ID{Site: 1, Number: 2}, 8 }, "ids @1.2, metres @1.2"},
	)
	try(t, base, l)
}

// P16.1: the rule structure.
func TestStructure(t *testing.T) {
	cells := func(s *api.Score) *[]api.Cell { return &s.Measures[1].Cells }
	voices := func(s *api.Score) *[]api.Voice { return &s.Measures[1].Cells[1].Voices }
	absent, tuplet := api.Voice{}, api.Voice{Tuplets: []api.Tuplet{{Count: 1, Actual: 3, Normal: 2}}}
	full := func(s *api.Score) api.Voice { return s.Measures[1].Cells[1].Voices[0] }
	try(t, base, []variant{
		{"no cells", set(cells, nil), "structure @0.12"},
		{"a cell less", func(s *api.Score) { *cells(s) = (*cells(s))[:2] }, "structure @0.12"},
		{"a cell more", func(s *api.Score) {
			*cells(s) = append(*cells(s), read([]int{1}, "m").Measures[0].Cells[0])
			(*cells(s))[3].Voices[0].Events[0].ID, s.Last[0].Number = api.ID{Number: 24}, 24
		}, "structure @0.12"},
		{"no voices", set(voices, nil), "structure @0.12"},
		{"an absent voice", set(voices, []api.Voice{absent}), "structure @0.12"},
		{"two absent voices", set(voices, []api.Voice{absent, absent}), "structure @0.12"},
		{"the last voice is absent", func(s *api.Score) { *voices(s) = []api.Voice{full(s), absent} }, "structure @0.12"},
		{"the first voice is absent", func(s *api.Score) { *voices(s) = []api.Voice{absent, full(s)} }, "structure @0.12"},
		{"tuplets without events", func(s *api.Score) { *voices(s) = []api.Voice{full(s), tuplet} }, "structure @0.12, tuplets @0.12"},
		{"tuplets before events", func(s *api.Score) { *voices(s) = []api.Voice{tuplet, full(s)} }, "structure @0.12, tuplets @0.12"},
		{"each measure once", func(s *api.Score) {
			*voices(s), s.Measures[1].Cells[0].Voices, s.Measures[2].Cells = nil, nil, nil
		}, "structure @0.12, structure @0.17"},
	})
}

// P16.1: the rule clefs.
func TestClefs(t *testing.T) {
	clefs := func(l ...api.ClefChange) func(s *api.Score) {
		return set(func(s *api.Score) *[]api.ClefChange { return &s.Measures[2].Cells[1].Clefs }, l)
	}
	const end = whole / 2
	try(t, base, []variant{
		{"clef 0", set(func(s *api.Score) *int { return &s.Parts[0].Staves[1].Clef }, 0), "clefs @0.3"},
		{"clef 9", set(func(s *api.Score) *int { return &s.Parts[0].Staves[1].Clef }, 9), ""},
		{"clef 10", set(func(s *api.Score) *int { return &s.Parts[0].Staves[1].Clef }, 10), "clefs @0.3"},
		{"clef -1", set(func(s *api.Score) *int { return &s.Parts[1].Staves[0].Clef }, -1), "clefs @0.5"},
		{"changes", clefs(api.ClefChange{At: 0, Clef: 1}, api.ClefChange{At: 1, Clef: 9}, api.ClefChange{At: end - 1, Clef: 2}), ""},
		{"the same clef again", clefs(api.ClefChange{At: 5, Clef: 1}, api.ClefChange{At: 6, Clef: 1}), ""},
		{"no clef", clefs(api.ClefChange{At: 0, Clef: 1}, api.ClefChange{At: 1}), "clefs @0.17"},
		{"clef 10 in a measure", clefs(api.ClefChange{At: 0, Clef: 10}), "clefs @0.17"},
		{"the same tick", clefs(api.ClefChange{At: 4, Clef: 1}, api.ClefChange{At: 4, Clef: 2}), "clefs @0.17"},
		{"an earlier tick", clefs(api.ClefChange{At: 4, Clef: 1}, api.ClefChange{At: 3, Clef: 2}), "clefs @0.17"},
		{"before the measure", clefs(api.ClefChange{At: -1, Clef: 1}), "clefs @0.17"},
		{"long before the measure", clefs(api.ClefChange{At: math.MinInt, Clef: 1}), "clefs @0.17"},
		{"after the measure", clefs(api.ClefChange{At: end, Clef: 1}), "clefs @0.17"},
		{"long after the measure", clefs(api.ClefChange{At: 1, Clef: 1}, api.ClefChange{At: math.MaxInt, Clef: 1}), "clefs @0.17"},
		{"each cell begins anew", func(s *api.Score) {
			s.Measures[2].Cells[0].Clefs = []api.ClefChange{{At: 8, Clef: 1}}
			s.Measures[2].Cells[1].Clefs = []api.ClefChange{{At: 8, Clef: 1}}
		}, ""},
		{"a measure without a length", func(s *api.Score) {
			clefs(api.ClefChange{At: -1, Clef: 10})(s)
			s.Measures[2].Metre.Unit = 3
		}, "metres @0.17"},
		{"staves before measures", func(s *api.Score) {
			clefs(api.ClefChange{At: -1, Clef: 10})(s)
			s.Measures[2].Cells[0].Clefs, s.Parts[1].Staves[0].Clef, s.Parts[0].Staves[0].Clef = []api.ClefChange{{At: -1}}, 0, 0
			s.Measures[0].Cells[2].Clefs = []api.ClefChange{{At: whole, Clef: 1}}
		}, "clefs @0.2, clefs @0.5, clefs @0.6, clefs @0.17"},
	})
}

// P16.1: the rule metres. Measures without a length do not violate voices and tuplets.
func TestMetres(t *testing.T) {
	fifths := func(n int) func(s *api.Score) {
		return set(func(s *api.Score) *int { return &s.Measures[1].Fifths }, n)
	}
	sign := func(m api.Metre) func(s *api.Score) {
		return set(func(s *api.Score) *api.Metre { return &s.Measures[1].Metre }, m)
	}
	length := func(n int) func(s *api.Score) {
		return set(func(s *api.Score) *int { return &s.Measures[1].Length }, n)
	}
	try(t, base, []variant{
		{"7 flats", fifths(-7), ""}, {"8 flats", fifths(-8), "metres @0.12"}, {"7 sharps", fifths(7), ""}, {"8 sharps", fifths(8), "metres @0.12"}, {"many sharps", fifths(math.MaxInt), "metres @0.12"}, {"many flats", fifths(math.MinInt), "metres @0.12"},
		{"no metre", sign(api.Metre{}), "metres @0.12"},
		{"wrong groups", sign(api.Metre{Count: 4, Unit: 4, Groups: [6]int{2, 3}}), "metres @0.12"},
		{"groups", sign(api.Metre{Count: 4, Unit: 4, Groups: [6]int{1, 3}}), ""},
		{"too long a metre", sign(api.Metre{Count: 9, Unit: 1}), "metres @0.12"},
		{"another metre", sign(api.Metre{Count: 3, Unit: 4}), "voices @0.12"},
		{"the usual length", length(whole), ""},
		{"a negative length", length(-finest), "metres @0.12"}, {"an odd length", length(finest + 1), "metres @0.12"}, {"too great a length", length(8*whole + finest), "metres @0.12"},
		{"another length", length(8 * whole), "voices @0.12"},
		{"a length of another metre", func(s *api.Score) {
			sign(api.Metre{Count: 9, Unit: 1})(s)
			length(whole)(s)
		}, ""},
		{"a written score", func(s *api.Score) {
			s.Written, s.Parts[0].Transpose = true, api.Interval{Steps: 5, Semitones: 9}
			fifths(7)(s)
		}, ""},
		{"a written score with 8 flats", func(s *api.Score) {
			s.Written, s.Parts[0].Transpose = true, api.Interval{Steps: 5, Semitones: 9}
			fifths(-8)(s)
		}, "metres @0.12"},
		{"all measures", func(s *api.Score) {
			for i := range s.Measures {
				s.Measures[i].Metre.Count = 0
				s.Measures[i].Cells[0].Voices[0].Tuplets = []api.Tuplet{{}}
			}
		}, "metres @0.6, metres @0.12, metres @0.17"},
	})
}

// P16.1: the rules voices and tuplets, which rely on the events.
func TestVoices(t *testing.T) {
	first := func(text string) func(s *api.Score) {
		return func(s *api.Score) {
			v := readVoice(text)
			for i := range v.Events {
				v.Events[i].ID = api.ID{Site: 1, Number: 1 + i}
			}
			s.Last = append(s.Last, api.ID{Site: 1, Number: 200})
			*voiceOf(s, 1, 1, 0) = v
		}
	}
	tuplets := func(l ...api.Tuplet) func(s *api.Score) {
		return func(s *api.Score) { voiceOf(s, 1, 1, 0).Tuplets = l }
	}
	second := func(text string) func(s *api.Score) {
		return func(s *api.Score) {
			v := readVoice(text)
			for i := range v.Events {
				v.Events[i].ID = api.ID{Site: 2, Number: 1 + i}
			}
			s.Last = append(s.Last, api.ID{Site: 2, Number: 200})
			s.Measures[1].Cells[2].Voices = append(s.Measures[1].Cells[2].Voices, v)
		}
	}
	wrong := func(s *api.Score) { voiceOf(s, 1, 1, 0).Events[0].Stem = 3 }
	try(t, base, []variant{
		{"too short", first("r:2 r:4"), "voices @0.12"},
		{"too long", first("r:2 r:2 r:256"), "voices @0.12"},
		{"a measure rest with others", first("r:1 m"), "voices @0.12"},
		{"two measure rests", first("m m"), "voices @0.12"},
		{"a triplet", first("3/2( r:2 r:2 r:2 )"), ""},
		{"tuplets that cross", then(first("r:4 r:4 r:4 r:4"), tuplets(api.Tuplet{First: 0, Count: 2, Actual: 3, Normal: 2}, api.Tuplet{First: 1, Count: 2, Actual: 3, Normal: 2})), "tuplets @0.12"},
		{"tuplets in no order", then(first("r:4 r:4 r:4 r:4"), tuplets(api.Tuplet{First: 1, Count: 1, Actual: 3, Normal: 2}, api.Tuplet{First: 0, Count: 1, Actual: 3, Normal: 2})), "tuplets @0.12"},
		{"a tuplet beyond the events", then(first("r:1"), tuplets(api.Tuplet{First: 1, Count: 1, Actual: 3, Normal: 2})), "tuplets @0.12"},
		{"a tuplet without a unit", first("3/2( r:2 r:2 ) r:2 3/2( r:4 r:4 )"), "tuplets @0.12"},
		{"no whole ticks", first("11/10( r:256 ) r:1"), "tuplets @0.12"},
		{"no unit, and too short", first("3/2( r:2 r:2 ) r:4"), "tuplets @0.12"},
		{"a measure rest with a tuplet", first("3/2( m )"), "tuplets @0.12"},
		{"both rules", then(first("r:2 r:4"), second("3/2( r:2 r:2 )")), "voices @0.12, tuplets @0.12"},
		{"the same rule twice", then(first("r:2 r:4"), second("r:2")), "voices @0.12"},
		{"an event that is wrong, too short", then(first("r:2 r:4"), wrong), "events @1.1"},
		{"an event that is wrong, a tuplet", then(first("r:2 r:2 r:2"), tuplets(api.Tuplet{}), wrong), "events @1.1"},
		{"an event that is wrong, another voice", then(first("r:2 r:4"), wrong, second("r:2")), "voices @0.12, events @1.1"},
		{"an event that is wrong, another tuplet", then(first("r:2 r:4"), wrong, second("3/2( r:2 r:2 )")), "tuplets @0.12, events @1.1"},
		{"a later event that is wrong", then(first("m r:4 r:2"), func(s *api.Score) { voiceOf(s, 1, 1, 0).Events[2].Dynamic = 10 }), "events @1.3"},
		{"measures in order", then(first("r:2 r:4"), func(s *api.Score) {
			voiceOf(s, 0, 0, 0).Events[0].Value.Log = 2
			voiceOf(s, 2, 2, 0).Tuplets = nil
		}), "voices @0.6, voices @0.12, voices @0.17"},
	})
}

// P16.1: the rule events.
func TestEvents(t *testing.T) {
	change := func(n int, change func(x *api.Event)) func(s *api.Score) {
		return func(s *api.Score) { change(eventOf(s, n)) }
	}
	try(t, base, []variant{
		{"kind 0", change(7, func(x *api.Event) { x.Kind = 0 }), "events @0.7"},
		{"kind 5", change(23, func(x *api.Event) { x.Kind = 5 }), "events @0.23"},
		{"no heads", change(14, func(x *api.Event) { x.Heads = nil }), "events @0.14"},
		{"heads of a rest", change(15, func(x *api.Event) { x.Heads = make([]api.Head, 1) }), "events @0.15"},
		{"no value", change(18, func(x *api.Event) { x.Value.Log = 9 }), "events @0.18"},
		{"no pitch", change(18, func(x *api.Event) { x.Heads[0].Pitch.Alter = 3 }), "events @0.18"},
		{"lyrics", change(18, func(x *api.Event) { x.Lyrics = lyrics("") }), "events @0.18"},
		{"a dynamic", change(19, func(x *api.Event) { x.Dynamic = 9 }), ""},
		{"no dynamic", change(19, func(x *api.Event) { x.Dynamic = 10 }), "events @0.19"},
		{"several", func(s *api.Score) { eventOf(s, 21).Stem, eventOf(s, 9).Value.Log, eventOf(s, 11).Kind = 3, 1, 9 }, "events @0.9, events @0.11, events @0.21"},
		{"in a measure without a length", func(s *api.Score) { s.Measures[0].Length, eventOf(s, 10).Kind = -1, 0 }, "metres @0.6, events @0.10"},
	})
}

// P16.1: the rule pitches.
func TestPitches(t *testing.T) {
	shift := func(part, semitones int, written bool) func(s *api.Score) {
		return func(s *api.Score) { s.Parts[part].Transpose.Semitones, s.Written = semitones, written }
	}
	parse := func(name string) api.Pitch {
		p, _, e := pitch.Parse(name)
		if e != api.OK {
			panic(name)
		}
		return p
	}
	pitches := func(n int, l ...string) func(s *api.Score) {
		return func(s *api.Score) {
			eventOf(s, n).Heads = nil
			for _, name := range l {
				eventOf(s, n).Heads = append(eventOf(s, n).Heads, api.Head{Pitch: parse(name)})
			}
		}
	}
	grace := func(n int, name string) func(s *api.Score) {
		return func(s *api.Score) { eventOf(s, n).Graces = []api.Grace{{Pitch: parse(name), Log: 3}} }
	}
	try(t, base, []variant{
		{"G9", then(pitches(13, "G9"), shift(0, 0, false)), ""},
		{"G9 plus 1", then(pitches(13, "G9"), shift(0, 1, false)), "pitches @0.13"},
		{"G9 plus 1 of another part", then(pitches(13, "G9"), shift(1, 1, false)), ""},
		{"G9 minus 1", then(pitches(13, "G9"), shift(0, -1, false)), ""},
		{"F#9 plus 1", then(pitches(13, "F#9"), shift(0, 1, false)), ""},
		{"G9 written minus -1", then(pitches(13, "G9"), shift(0, -1, true)), "pitches @0.13"},
		{"G9 written minus 1", then(pitches(13, "G9"), shift(0, 1, true)), ""},
		{"C-1 minus 1", then(pitches(13, "C-1", "C4"), shift(0, -1, false)), "pitches @0.13"},
		{"C#-1 minus 1", then(pitches(13, "C#-1", "C4"), shift(0, -1, false)), ""},
		{"C-1 written minus 1", then(pitches(13, "C-1", "C4"), shift(0, 1, true)), "pitches @0.13"},
		{"C-1 written minus -1", then(pitches(13, "C-1", "C4"), shift(0, -1, true)), ""},
		{"the highest head", then(pitches(13, "C4", "E4", "G9"), shift(0, 1, false)), "pitches @0.13"},
		{"a grace note", then(grace(14, "G9"), shift(0, 1, false)), "pitches @0.14"},
		{"a low grace note", then(grace(14, "C-1"), shift(0, 1, false)), ""},
		{"the second part", then(pitches(10, "G9"), shift(1, 1, false)), "pitches @0.10"},
		{"far", shift(0, 140, false), "pitches @0.7, pitches @0.8, pitches @0.13, pitches @0.14, pitches @0.18, pitches @0.20"},
		{"a wrong event", then(pitches(13, "G9"), shift(0, 1, false), func(s *api.Score) { eventOf(s, 13).Stem = 3 }), "events @0.13"},
		{"a wrong pitch", then(pitches(13, "G9"), shift(0, 1, false), func(s *api.Score) { eventOf(s, 13).Heads[0].Pitch.Alter = 1 }), "events @0.13"},
		{"more cells than staves", then(pitches(10, "G9"), shift(0, 1, false), shift(1, 1, false), func(s *api.Score) { s.Parts = s.Parts[:1] }), "structure @0.6, structure @0.12, structure @0.17"},
		{"fewer cells than staves", then(pitches(7, "G9"), shift(0, 1, false), func(s *api.Score) { s.Measures[0].Cells = s.Measures[0].Cells[:1] }), "structure @0.6, pitches @0.7"},
		{"in a measure without a length", then(pitches(7, "G9"), shift(0, 1, false), func(s *api.Score) { s.Measures[0].Length = 1 }), "metres @0.6, pitches @0.7"},
	})
}
