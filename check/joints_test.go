package check

import (
	"math"
	"slices"
	"testing"

	"hemiola/api"
)

// P16.1: what blocks later rules.
func TestOrder(t *testing.T) {
	all := func(s *api.Score) {
		eventOf(s, 7).Heads[0].Tied = true    // ties
		eventOf(s, 13).Lyrics = lyrics("la-") // lyrics
		join(s, 0, 7, 8)                      // ends
		join(s, api.Slur, 7, 13)
		join(s, api.Slur, 8, 18)    // nesting
		s.Measures[0].RepeatEnd = 9 // repeats
		s.Measures[1].Jump = 7      // jumps
		s.Measures[2].Swing = 1     // tempi
		// margins: a whole note that is tied to the C3 of the next measure
		eventOf(s, 9).Kind, eventOf(s, 9).Heads = api.Chord, []api.Head{{Pitch: eventOf(s, 14).Heads[0].Pitch, Tied: true}}
	}
	const high = "pitches @0.10, pitches @0.21, pitches @0.22, pitches @0.23"
	both := func(change func(s *api.Score)) func(s *api.Score) {
		return func(s *api.Score) {
			all(s)
			change(s)
		}
	}
	try(t, base, []variant{
		{"all later rules", all, "ties @0.7, lyrics @0.13, ends @0.24, nesting @0.26, repeats @0.6, jumps @0.12, tempi @0.17, margins @0.9"},
		{"pitches", both(func(s *api.Score) { s.Parts[1].Transpose.Semitones = 100 }), high},
		{"events", both(func(s *api.Score) { eventOf(s, 13).Stem = 3 }), "events @0.13"},
		{"ids", both(func(s *api.Score) { s.Last[0].Number = 25 }), "ids @0.26"},
		{"limits", both(func(s *api.Score) { s.Title, s.Last[0].Number = "\n", 25 }), "limits"},
		{"ids to pitches", both(func(s *api.Score) {
			s.Parts[1].Transpose.Semitones = 100
			s.Last[0].Number, s.Measures[1].Cells[1].Voices = 25, nil
			s.Measures[2].Cells[0].Clefs = []api.ClefChange{{At: 1, Clef: 0}}
			s.Measures[0].Fifths, eventOf(s, 7).Value.Log, eventOf(s, 11).Kind = 8, 2, 0
			voiceOf(s, 2, 2, 0).Tuplets[0].Actual = 2
		}), "ids @0.26, structure @0.12, clefs @0.17, metres @0.6, voices @0.6, tuplets @0.17, events @0.11, " + high},
	})
}

// P16.1, P16.2: not more than 200 violations are listed.
func TestMaxViolations(t *testing.T) {
	s := read([]int{1}, slices.Repeat([]string{"C4~:4 D4:4 E4:4 F4:4"}, 300)...)
	s.Measures[299].Break = 4
	l := Check(s)
	if len(l) != 200 || l[199] != (api.Violation{Rule: Ties, Object: s.Measures[199].Cells[0].Voices[0].Events[0].ID}) {
		t.Error(len(l), texts(l))
	}
	if l, e := Rule(s, Ties); len(l) != 200 || e != api.OK {
		t.Error(len(l), e)
	}
	if l, e := Rule(s, Tempi); len(l) != 0 || e != api.OK {
		t.Error(texts(l), e)
	}
	for i := range 101 {
		eventOf(&s, s.Measures[i].Cells[0].Voices[0].Events[0].ID.Number).Heads[0].Tied = false
	}
	if l := Check(s); len(l) != 200 || l[199] != (api.Violation{Rule: Tempi, Object: s.Measures[299].ID}) {
		t.Error(len(l), texts(l))
	}
	eventOf(&s, s.Measures[101].Cells[0].Voices[0].Events[0].ID.Number).Heads[0].Tied = false
	if l := Check(s); len(l) != 199 {
		t.Error(len(l))
	}
	if l, e := Rule(s, Tempi); texts(l) != Text(api.Violation{Rule: Tempi, Object: s.Measures[299].ID}) || e != api.OK {
		t.Error(texts(l), e)
	}
	if l, e := Rule(s, Ties); len(l) != 198 || e != api.OK {
		t.Error(len(l), e)
	}
}

// P16.2
func TestRule(t *testing.T) {
	s := base()
	s.Parts[0].Staves[0].Clef, s.Measures[1].Fifths, s.Measures[2].Fifths = 0, 9, -9
	for rule := -1; rule <= 19; rule++ {
		want := map[int]string{Clefs: "clefs @0.2", Metres: "metres @0.12, metres @0.17"}[rule]
		e := api.OK
		if rule < 1 || rule > 17 {
			e = api.ErrKind
		}
		if l, f := Rule(s, rule); texts(l) != want || e != f {
			t.Errorf("Rule(%d) = %q, %d", rule, texts(l), f)
		}
	}
	for _, rule := range []int{math.MinInt, math.MaxInt, 0, 18} {
		if l, e := Rule(base(), rule); len(l) != 0 || e != api.ErrKind {
			t.Error(l, e)
		}
	}
	if v, found := First(s); v != (api.Violation{Rule: Clefs, Object: api.ID{Number: 2}}) || !found {
		t.Error(v, found)
	}
	if l, e := Rule(base(), Clefs); len(l) != 0 || e != api.OK {
		t.Error(l, e)
	}
}

// P16.3
func TestNames(t *testing.T) {
	want := []string{"limits", "ids", "structure", "clefs", "metres", "voices", "tuplets", "events", "pitches", "ties", "lyrics", "ends", "nesting", "repeats", "jumps", "tempi", "margins"}
	rules := []int{Limits, Ids, Structure, Clefs, Metres, Voices, Tuplets, Events, Pitches, Ties, Lyrics, Ends, Nesting, Repeats, Jumps, Tempi, Margins}
	for i, rule := range rules {
		if rule != i+1 || len(rules) != NumRules || len(want) != NumRules || MaxViolations != 200 {
			t.Errorf("rule %d has the number %d", i+1, rule)
		}
	}
	for i, name := range want {
		if got, e := Name(i + 1); got != name || e != api.OK {
			t.Errorf("Name(%d) = %q, %d", i+1, got, e)
		}
		if rule, e := Find(name); rule != i+1 || e != api.OK {
			t.Errorf("Find(%q) = %d, %d", name, rule, e)
		}
		if text := Text(api.Violation{Rule: i + 1}); text != name {
			t.Errorf("Text = %q", text)
		}
		if text := Text(api.Violation{Rule: i + 1, Object: api.ID{Site: 12, Number: 345}}); text != name+" @12.345" {
			t.Errorf("Text = %q", text)
		}
	}
	for _, rule := range []int{0, 18, -1, math.MinInt, math.MaxInt} {
		if name, e := Name(rule); name != "" || e != api.ErrKind {
			t.Errorf("Name(%d) = %q, %d", rule, name, e)
		}
		for _, id := range []api.ID{{}, {Number: 1}} {
			if text := Text(api.Violation{Rule: rule, Object: id}); text != "" {
				t.Errorf("Text = %q", text)
			}
		}
	}
	for _, name := range []string{"", "Limits", "limit", "limits ", " ties", "margins @0.1", "nesting\x00"} {
		if rule, e := Find(name); rule != 0 || e != api.ErrNotFound {
			t.Errorf("Find(%q) = %d, %d", name, rule, e)
		}
	}
	for id, text := range map[api.ID]string{{Site: 3}: "ids @3.0", {Number: 4}: "ids @0.4", {Site: -1, Number: -2}: "ids @-1.-2", {Site: math.MinInt, Number: math.MaxInt}: "ids @-9223372036854775808.9223372036854775807"} {
		if got := Text(api.Violation{Rule: Ids, Object: id}); got != text {
			t.Errorf("Text = %q; want %q", got, text)
		}
	}
}

// P16.1: the rule ties, with the events of each measure numbered from 4 on.
func TestTies(t *testing.T) {
	for _, c := range []struct {
		measures []string
		want     string
	}{
		{[]string{"C4~:2 C4:2"}, ""}, {[]string{"C4~:2 C4~:2", "C4:1"}, ""}, {[]string{"C4~:1", "C4~:1", "C4~:1", "C4:1"}, ""},
		{[]string{"C4:2 C4~:2"}, "ties @0.5"}, // nothing follows
		{[]string{"C4~:2 r:2"}, "ties @0.4"}, {[]string{"C4~:2 s:2"}, "ties @0.4"}, {[]string{"C4~:1", "m"}, "ties @0.4"},
		{[]string{"C4~:2 D4:2"}, "ties @0.4"}, {[]string{"C4~:2 C5:2"}, "ties @0.4"}, {[]string{"C4~:1", "D4:1"}, "ties @0.4"},
		{[]string{"C#4~:2 Db4:2"}, "ties @0.4"}, {[]string{"C4~:2 B#3:2"}, "ties @0.4"}, {[]string{"F#4~:2 F#4:2"}, ""},
		{[]string{"C4~:2 A3+C4+E4:2"}, ""}, {[]string{"C4~+E4:2 C4:2"}, ""}, {[]string{"C4~+E4:2 E4:2"}, "ties @0.4"}, {[]string{"C4~+E4~:2 E4:2"}, "ties @0.4"}, {[]string{"C4~+E4~:2 C4+E4:2"}, ""},
		{[]string{"C4~:4 r:4 C4:2"}, "ties @0.4"},
		{[]string{"C4:1 ; E4~:1", "E4:1"}, "ties @0.5"}, {[]string{"C4:1 ; E4~:1", "E4:1 ; E4:1"}, ""}, {[]string{"C4:1 ; E4~:1", "C4:1", "C4:1 ; E4:1"}, "ties @0.5"}, {[]string{"E4~:1 ; C4:1", "E4:1"}, ""},
		{[]string{"C4~:2 D4:2 ; D4~:2 C4:2"}, "ties @0.4, ties @0.6"}, {[]string{"C4~:2 D4~:2", "E4~:1"}, "ties @0.4, ties @0.5, ties @0.7"},
		{[]string{"3/2( C4~:4 C4:4 C4~:4 ) C4:2"}, ""},
	} {
		if l := Check(read([]int{1}, c.measures...)); texts(l) != c.want {
			t.Errorf("%q: %q; want %q", c.measures, texts(l), c.want)
		}
	}
	// each staff on its own
	if l := Check(read([]int{1, 1}, "C4~:1 | D4~:1", "C4:1 | C4:1")); texts(l) != "ties @0.7" {
		t.Error(texts(l))
	}
}

// P16.1: the rule lyrics, with the events of the first measure numbered from 4 on.
func TestLyrics(t *testing.T) {
	for _, c := range []struct {
		measures []string
		want     string
	}{
		{[]string{"C4:2'la C4:2'le"}, ""}, {[]string{"C4:2'la- C4:2'le"}, ""}, {[]string{"C4:2'la- C4:2'le-", "C4:1'li"}, ""},
		{[]string{"C4:1'la-"}, "lyrics @0.4"}, {[]string{"C4:2'la- C4:2"}, "lyrics @0.4"}, {[]string{"C4:1'la-", "m"}, "lyrics @0.4"},
		// other events, and absent syllables, do not matter
		{[]string{"C4:4'la- C4:4 r:4 s:4", "m", "C4:2 C4:2'le"}, ""}, {[]string{"C4:2'la- C4:4''x C4:4'le"}, ""},
		{[]string{"C4:2'la- C4:2'le_"}, ""}, {[]string{"C4:2'la- C4:2'_"}, "lyrics @0.4, lyrics @0.5"},
		// extenders
		{[]string{"C4:2'la_ C4:2'_"}, ""}, {[]string{"C4:2'la_ C4:2'le"}, ""}, {[]string{"C4:1'la_"}, ""}, {[]string{"C4:4'la_ C4:4'_ C4:4'_ C4:4'le"}, ""}, {[]string{"C4:4'la_ C4:4 r:4 C4:4'_"}, ""}, {[]string{"C4:1'la_", "m", "C4:1'_"}, ""},
		{[]string{"C4:2'la C4:2'_"}, "lyrics @0.5"}, {[]string{"C4:1'_"}, "lyrics @0.4"}, {[]string{"C4:2'_ C4:2'_"}, "lyrics @0.4"}, {[]string{"C4:4'la_ C4:4'le C4:2'_"}, "lyrics @0.6"},
		// verses
		{[]string{"C4:2'la-'la C4:2'le'le"}, ""}, {[]string{"C4:2'la-'la- C4:2'le"}, "lyrics @0.4"}, {[]string{"C4:2'la_'la C4:2'_'_"}, "lyrics @0.5"}, {[]string{"C4:2'la'la- C4:2'le-"}, "lyrics @0.4, lyrics @0.5"},
		{[]string{"C4:2'''''la_ C4:2'_'x"}, "events @0.4"}, {[]string{"C4:2''''la_ C4:2''''_"}, ""}, {[]string{"C4:2''''la- C4:2'le'le'le"}, "lyrics @0.4"}, {[]string{"C4:2'la-'la-'la-'la- C4:2'_'_'_'_"}, "lyrics @0.4, lyrics @0.5"},
		// voices, also with measures in which one is absent
		{[]string{"C4:1'la- ; C4:1'la", "C4:1'le"}, ""}, {[]string{"C4:1'la- ; C4:1'la-", "C4:1'le"}, "lyrics @0.5"}, {[]string{"C4:1 ; C4:1'la-", "C4:1'x", "C4:1 ; C4:1'le"}, ""}, {[]string{"C4:1 ; C4:1'la_", "C4:1'x", "C4:1 ; C4:1'_"}, ""}, {[]string{"C4:1'la_ ; C4:1'la", "C4:1 ; C4:1'_"}, "lyrics @0.8"},
		// violations in the order of the events, not of the verses and voices
		{[]string{"C4:1'la ; C4:1'la-", "C4:1'_'la-"}, "lyrics @0.5, lyrics @0.7"}, {[]string{"C4:1 ; C4:1'_", "C4:1'la- ; C4:1'_", "C4:1'_"}, "lyrics @0.5, lyrics @0.7, lyrics @0.10"},
	} {
		if l := Check(read([]int{1}, c.measures...)); texts(l) != c.want {
			t.Errorf("%q: %q; want %q", c.measures, texts(l), c.want)
		}
	}
	if l := Check(read([]int{1, 1}, "C4:1'la- | C4:1'la", "C4:1 | C4:1'le")); texts(l) != "lyrics @0.6" {
		t.Error(texts(l))
	}
}

// ends is a score of two staves: a measure with the events 5, 6 and 7, 8 in two voices, and 9, 10 in the second staff, and one with 12 and 13, and 14.
func ends() api.Score {
	return read([]int{2}, "C4:2 D4:2 ; E4:2 F4:2 | C3:2 D3:2", "C4:1 ; E4:1 | C3:1")
}

// P16.1: the rule ends.
func TestEnds(t *testing.T) {
	with := func(kind, from, to int) func(s *api.Score) {
		return func(s *api.Score) { join(s, kind, from, to) }
	}
	var l []variant
	for kind := api.Slur; kind <= api.TrillLine; kind++ {
		voices := "ends @0.15"
		if kind != api.Slur && kind != api.TrillLine {
			voices = ""
		}
		l = append(l,
			variant{"two notes", with(kind, 5, 6), ""}, variant{"over the barline", with(kind, 6, 12), ""}, variant{"from the second voice", with(kind, 7, 13), ""}, variant{"in another staff", with(kind, 9, 14), ""},
			variant{"one note", with(kind, 5, 5), "ends @0.15"}, variant{"backwards", with(kind, 6, 5), "ends @0.15"}, variant{"backwards over the barline", with(kind, 12, 6), "ends @0.15"},
			variant{"another staff", with(kind, 5, 10), "ends @0.15"}, variant{"another voice", with(kind, 5, 8), voices}, variant{"another voice of another measure", with(kind, 5, 13), voices}, variant{"the same tick", with(kind, 5, 7), "ends @0.15"},
		)
	}
	for _, none := range []int{0, -1, 1, 2, 4, 11, 15, 16, 99} {
		l = append(l, variant{"from nothing", with(api.Pedal, none, 12), "ends @0.15"}, variant{"to nothing", with(api.Pedal, 5, none), "ends @0.15"})
	}
	for _, kind := range []int{0, 8, -1, math.MinInt, math.MaxInt} {
		l = append(l, variant{"no kind", with(kind, 5, 6), "ends @0.15"})
	}
	l = append(l, variant{"several", func(s *api.Score) {
		join(s, 0, 5, 6)
		join(s, api.Slur, 5, 6)
		join(s, api.Slur, 5, 7)
		join(s, api.Slur, 5, 99)
	}, "ends @0.15, ends @0.17, ends @0.18"},
		variant{"of another site", func(s *api.Score) {
			join(s, api.Slur, 5, 6)
			s.Spanners[0].To.Site = 1
		}, "ends @0.15"})
	try(t, ends, l)
}

// nests is a score of two staves: measures with the events 5 to 8 and 9 in two voices, and 10 in the second staff, and then 12 to 15 and 16, 17, and 18, 19.
func nests() api.Score {
	return read([]int{2}, "C4:4 C4:4 C4:4 C4:4 ; r:1 | r:1", "C4:4 C4:4 C4:4 C4:4 ; r:2 r:2 | r:2 r:2")
}

// P16.1: the rule nesting.
func TestNesting(t *testing.T) {
	with := func(l ...[3]int) func(s *api.Score) {
		return func(s *api.Score) {
			for _, x := range l {
				join(s, x[0], x[1], x[2])
			}
		}
	}
	const slur, cresc, dim, up, down, pedal, trill = 1, 2, 3, 4, 5, 6, 7
	type sp = [3]int
	try(t, nests, []variant{
		{"slurs within slurs", with(sp{slur, 5, 15}, sp{slur, 5, 8}, sp{slur, 6, 7}, sp{slur, 8, 15}), ""},
		{"slurs after slurs", with(sp{slur, 12, 15}, sp{slur, 5, 6}, sp{slur, 6, 12}), ""},
		{"slurs that cross", with(sp{slur, 5, 7}, sp{slur, 6, 8}), "nesting @0.21"},
		{"the same slur twice", with(sp{slur, 5, 7}, sp{slur, 5, 7}, sp{slur, 5, 7}), "nesting @0.21, nesting @0.22"},
		{"slurs that cross, the later one first", with(sp{slur, 6, 8}, sp{slur, 5, 7}), "nesting @0.21"},
		{"one that excludes one that is excluded", with(sp{slur, 5, 7}, sp{slur, 6, 12}, sp{slur, 8, 13}), "nesting @0.21, nesting @0.22"},
		{"two that exclude a later one", with(sp{slur, 5, 7}, sp{slur, 12, 14}, sp{slur, 6, 13}), "nesting @0.22"},
		{"hairpins", with(sp{cresc, 5, 6}, sp{dim, 6, 8}), ""}, {"hairpins that overlap", with(sp{cresc, 5, 7}, sp{dim, 6, 8}), "nesting @0.21"}, {"hairpins within hairpins", with(sp{cresc, 5, 8}, sp{cresc, 6, 7}), "nesting @0.21"},
		{"octave lines", with(sp{up, 5, 6}, sp{down, 7, 8}), ""}, {"octave lines that touch", with(sp{up, 5, 6}, sp{down, 6, 8}), "nesting @0.21"},
		{"pedals", with(sp{pedal, 5, 6}, sp{pedal, 6, 8}), ""}, {"pedals that overlap", with(sp{pedal, 5, 12}, sp{pedal, 8, 13}), "nesting @0.21"},
		{"trill lines", with(sp{trill, 5, 6}, sp{trill, 7, 8}), ""}, {"trill lines that touch", with(sp{trill, 6, 7}, sp{trill, 5, 6}), "nesting @0.21"},
		{"different groups", with(sp{slur, 5, 7}, sp{cresc, 6, 8}, sp{up, 5, 8}, sp{pedal, 6, 12}, sp{trill, 7, 8}), ""},
		{"different voices", with(sp{slur, 6, 13}, sp{slur, 9, 17}), ""},
		{"voices of one staff", with(sp{pedal, 6, 13}, sp{pedal, 9, 17}), "nesting @0.21"},
		{"different staves", with(sp{pedal, 6, 13}, sp{pedal, 10, 19}), ""},
		{"not one that is wrong itself", with(sp{slur, 7, 5}, sp{slur, 6, 8}, sp{slur, 6, 16}), "ends @0.20, ends @0.22"},
		{"violations in order", with(sp{slur, 13, 15}, sp{slur, 12, 14}, sp{cresc, 6, 8}, sp{slur, 6, 8}, sp{slur, 5, 7}, sp{dim, 5, 7}), "nesting @0.21, nesting @0.24, nesting @0.25"},
	})
}

// P16.1: the rule margins.
func TestMargins(t *testing.T) {
	tied := func() api.Score {
		return read([]int{1, 1}, "C4:2 C4~:2 | r:2 D4~:2", "C4:1 | D4:2 r:2", "E4:1 | m")
	}
	first := func(change func(m *api.Measure)) func(s *api.Score) {
		return func(s *api.Score) { change(&s.Measures[0]) }
	}
	second := func(change func(m *api.Measure)) func(s *api.Score) {
		return func(s *api.Score) { change(&s.Measures[1]) }
	}
	repeat := func(s *api.Score) {
		s.Measures[0].RepeatEnd = 2
	}
	const both = "margins @0.7, margins @0.9"
	try(t, tied, []variant{
		{"a tie over a barline", func(s *api.Score) {}, ""},
		{"a repeat", repeat, both},
		{"a repeat after the tie", func(s *api.Score) { s.Measures[1].RepeatEnd = 2 }, ""},
		{"a repeat before the tie", first(func(m *api.Measure) { m.RepeatStart, m.RepeatEnd = true, 2 }), both},
		{"a repeat from the tie on", func(s *api.Score) { s.Measures[1].RepeatStart, s.Measures[2].RepeatEnd = true, 2 }, both},
		{"a repeat that begins before", func(s *api.Score) { s.Measures[0].RepeatStart, s.Measures[1].RepeatEnd = true, 2 }, ""},
		{"into an ending", func(s *api.Score) {
			s.Measures[1].Endings, s.Measures[1].RepeatEnd, s.Measures[2].Endings = 1, 2, 2
		}, both},
		{"a jump", first(func(m *api.Measure) { m.Jump = api.DaCapo }), both},
		{"a jump after the tie", second(func(m *api.Measure) { m.Jump = api.DaCapo }), ""},
		{"fine", first(func(m *api.Measure) { m.Labels = api.Fine }), both}, {"to coda", first(func(m *api.Measure) { m.Labels = api.ToCoda }), both},
		{"segno", second(func(m *api.Measure) { m.Labels = api.Segno }), both}, {"coda", second(func(m *api.Measure) { m.Labels = api.Coda }), both},
		{"segno before", first(func(m *api.Measure) { m.Labels = api.Segno }), ""}, {"coda before", first(func(m *api.Measure) { m.Labels = api.Coda }), ""},
		{"fine after", second(func(m *api.Measure) { m.Labels = api.Fine }), ""}, {"to coda after", second(func(m *api.Measure) { m.Labels = api.ToCoda }), ""},
		{"fine and coda", first(func(m *api.Measure) { m.Labels = api.Fine | api.Coda }), both},
		{"a tie within a measure", func(s *api.Score) {
			eventOf(s, 7).Heads[0].Tied, eventOf(s, 9).Heads[0].Tied, eventOf(s, 6).Heads[0].Tied = false, false, true
			repeat(s)
		}, ""},
		{"other rules too", func(s *api.Score) {
			s.Measures[0].Jump = 7
			eventOf(s, 12).Heads[0].Tied = true
		}, "ties @0.12, jumps @0.5, " + both},
		{"a tie to another pitch", func(s *api.Score) { eventOf(s, 11).Heads[0].Pitch.Step, s.Measures[0].Jump = 5, 1 }, "ties @0.7, " + both},
		{"a tie out of the score", func(s *api.Score) {
			eventOf(s, 15).Heads[0].Tied, s.Measures[2].RepeatEnd = true, 2
		}, "ties @0.15"},
	})
	// between measures of the same ending, and of different ones
	s := read([]int{1}, "r:1", "C4~:1", "C4:1", "m")
	s.Measures[1].Endings, s.Measures[2].Endings, s.Measures[3].Endings, s.Measures[2].RepeatEnd = 1, 1, 2, 2
	if l := Check(s); len(l) != 0 {
		t.Error(texts(l))
	}
	s.Measures[2].Endings, s.Measures[2].RepeatEnd, s.Measures[1].RepeatEnd, s.Measures[3].Endings = 2, 0, 2, 2
	if l := Check(s); texts(l) != "margins @0.6" {
		t.Error(texts(l))
	}
	// from the last ending into the next measure
	s.Measures[1].Cells[0].Voices[0].Events[0].Heads[0].Tied = false
	s.Measures[2].Cells[0].Voices[0].Events[0].Heads[0].Tied = true
	s.Measures[3] = s.Measures[2]
	s.Measures[3].ID, s.Measures[3].Endings = api.ID{Number: 9}, 0
	s.Measures[3].Cells = read([]int{1}, "C4:1").Measures[0].Cells
	s.Measures[3].Cells[0].Voices[0].Events[0].ID = api.ID{Number: 10}
	if l := Check(s); texts(l) != "margins @0.8" {
		t.Error(texts(l))
	}
}
