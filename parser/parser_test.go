package parser

import (
	"reflect"
	"slices"
	"strings"
	"testing"

	"hemiola/api"
	"hemiola/check"
	"hemiola/clef"
	"hemiola/lexer"
	"hemiola/score"
)

// start is the text of a score before its measures.
const start = `score "" part "" staff treble `

// read returns the score of a text.
func read(t *testing.T, s string) api.Score {
	t.Helper()
	x, line, column, e := Read(s)
	if line != 0 || column != 0 || e != api.OK {
		t.Errorf("Read(%q) = %d, %d, %d", s, line, column, e)
	}
	return x
}

// one returns the only measure of a text with the measures of a score.
func one(t *testing.T, s string) api.Measure {
	t.Helper()
	x := read(t, start+s)
	if len(x.Measures) != 1 {
		t.Fatalf("%q has %d measures", s, len(x.Measures))
	}
	return x.Measures[0]
}

func id(site, number int) api.ID { return api.ID{Site: site, Number: number} }

// note returns a chord of one head.
func note(number int, step int, log int) api.Event {
	return api.Event{ID: id(0, number), Kind: api.Chord, Value: api.Value{Log: log}, Heads: []api.Head{{Pitch: api.Pitch{Step: step, Octave: 4}}}}
}

// P19.1
func TestExample(t *testing.T) {
	const text = `score "Duo"
part "Flute" staff treble
measure metre 3/4 key 1 { (3:2 G4:8 A4:8 B4:8) <C5~ E5>:4 [accent mf] "la" r:4 }
measure { C5:2. }
`
	chord := api.Event{ID: id(0, 7), Kind: api.Chord, Value: api.Value{Log: 2}, Articulations: api.Accent, Dynamic: 5, Lyrics: []api.Syllable{{Text: "la"}},
		Heads: []api.Head{{Pitch: api.Pitch{Octave: 5}, Tied: true}, {Pitch: api.Pitch{Step: 2, Octave: 5}}}}
	rest := api.Event{ID: id(0, 8), Kind: api.Rest, Value: api.Value{Log: 2}}
	last := note(10, 0, 1)
	last.Value.Dots, last.Heads[0].Pitch.Octave = 1, 5
	metre := api.Metre{Count: 3, Unit: 4}
	want := api.Score{
		Title: "Duo",
		Parts: []api.Part{{ID: id(0, 1), Name: "Flute", Staves: []api.Staff{{ID: id(0, 2), Clef: clef.Treble}}}},
		Measures: []api.Measure{
			{ID: id(0, 3), Metre: metre, Fifths: 1, Cells: []api.Cell{{Voices: []api.Voice{{
				Events:  []api.Event{note(4, 4, 3), note(5, 5, 3), note(6, 6, 3), chord, rest},
				Tuplets: []api.Tuplet{{Count: 3, Actual: 3, Normal: 2}},
			}}}}},
			{ID: id(0, 9), Metre: metre, Fifths: 1, Cells: []api.Cell{{Voices: []api.Voice{{Events: []api.Event{last}}}}}},
		},
		Last: []api.ID{id(0, 10)},
	}
	if x := read(t, text); !reflect.DeepEqual(x, want) {
		t.Errorf("%v; want %v", x, want)
	}
	// The tie joins nothing.
	if x, line, column, e := Parse(text); !reflect.DeepEqual(x, api.Score{}) || line != 5 || column != 1 || e != api.ErrRule {
		t.Error(x, line, column, e)
	}
	valid := strings.Replace(text, "~", "", 1)
	if x, line, column, e := Parse(valid); !score.Equal(x, read(t, valid)) || line != 0 || column != 0 || e != api.OK {
		t.Error(x, line, column, e)
	}
}

// P19.1
func TestScoreLine(t *testing.T) {
	for s, want := range map[string]api.Score{
		`score ""`:           {},
		`score "a\x41\n"`:    {Title: "aA\n"},
		`score "" written`:   {Written: true},
		`score "" last @0.1`: {Last: []api.ID{id(0, 1)}},
		`score "" written last @5.7 @3.1073741824@5.7 `: {Written: true, Last: []api.ID{id(5, 7), id(3, 1<<30), id(5, 7)}},
		`score "" last @99.5 part ""`:                   {Last: []api.ID{id(99, 5)}, Parts: []api.Part{{ID: id(0, 1)}}},
	} {
		if x := read(t, s); !score.Equal(x, want) {
			t.Errorf("Read(%q) = %v", s, x)
		}
	}
}

// P19.1
func TestParts(t *testing.T) {
	x := read(t, `score "" part "A" part @3.5 "B" transpose 1 2 staff treble staff @4.1 bass8 part "C" transpose -140 - 140 staff alto`)
	want := []api.Part{
		{ID: id(0, 1), Name: "A"},
		{ID: id(3, 5), Name: "B", Transpose: api.Interval{Steps: 1, Semitones: 2}, Staves: []api.Staff{{ID: id(3, 6), Clef: clef.Treble}, {ID: id(4, 1), Clef: clef.BassDown}}},
		{ID: id(4, 2), Name: "C", Transpose: api.Interval{Steps: -140, Semitones: -140}, Staves: []api.Staff{{ID: id(4, 3), Clef: clef.Alto}}},
	}
	if !reflect.DeepEqual(x.Parts, want) || !slices.Equal(x.Last, []api.ID{id(0, 1), id(3, 6), id(4, 3)}) {
		t.Errorf("%v, %v", x.Parts, x.Last)
	}
	for n := clef.Treble; n <= clef.NumClefs; n++ {
		name, _ := clef.Name(n)
		if x := read(t, `score "" part "" staff `+name); x.Parts[0].Staves[0].Clef != n {
			t.Error(name, x)
		}
	}
}

// P19.1
func TestOptions(t *testing.T) {
	for s, change := range map[string]func(m *api.Measure){
		"":                       func(m *api.Measure) {},
		"metre 2+2+3/8":          func(m *api.Measure) { m.Metre = api.Metre{Count: 7, Unit: 8, Groups: [6]int{2, 2, 3}} },
		"metre 64/64":            func(m *api.Measure) { m.Metre = api.Metre{Count: 64, Unit: 64} },
		"length 1":               func(m *api.Measure) { m.Length = 1 },
		"length 4398046511104":   func(m *api.Measure) { m.Length = api.MaxTime },
		"key 7":                  func(m *api.Measure) { m.Fifths = 7 },
		"key -7":                 func(m *api.Measure) { m.Fifths = -7 },
		"key - 0":                func(m *api.Measure) {},
		"repeat":                 func(m *api.Measure) { m.RepeatStart = true },
		"times 2":                func(m *api.Measure) { m.RepeatEnd = 2 },
		"times 8":                func(m *api.Measure) { m.RepeatEnd = 8 },
		"endings 1":              func(m *api.Measure) { m.Endings = 1 },
		"endings 255":            func(m *api.Measure) { m.Endings = 255 },
		"jump dacapo":            func(m *api.Measure) { m.Jump = 1 },
		"jump dacapofine":        func(m *api.Measure) { m.Jump = 2 },
		"jump dacapocoda":        func(m *api.Measure) { m.Jump = 3 },
		"jump dalsegno":          func(m *api.Measure) { m.Jump = 4 },
		"jump dalsegnofine":      func(m *api.Measure) { m.Jump = 5 },
		"jump dalsegnocoda":      func(m *api.Measure) { m.Jump = 6 },
		"segno":                  func(m *api.Measure) { m.Labels = 1 },
		"coda":                   func(m *api.Measure) { m.Labels = 2 },
		"fine":                   func(m *api.Measure) { m.Labels = 4 },
		"tocoda":                 func(m *api.Measure) { m.Labels = 8 },
		"segno coda fine tocoda": func(m *api.Measure) { m.Labels = 15 },
		"swing 1":                func(m *api.Measure) { m.Swing = 1 },
		"swing 100":              func(m *api.Measure) { m.Swing = 100 },
		"break system":           func(m *api.Measure) { m.Break = 1 },
		"break page":             func(m *api.Measure) { m.Break = 2 },
		"break never":            func(m *api.Measure) { m.Break = 3 },
		`mark "A"`:               func(m *api.Measure) { m.Rehearsal = "A" },
		`mark ""`:                func(m *api.Measure) {},
		"tempo 0 1":              func(m *api.Measure) { m.Tempi = []api.TempoMark{{At: 0, Micros: 1}} },
		"tempo 5 6 ramp tempo 5 60000000tempo 4398046511104 1 ramp": func(m *api.Measure) {
			m.Tempi = []api.TempoMark{{At: 5, Micros: 6, Ramp: true}, {At: 5, Micros: 60000000}, {At: api.MaxTime, Micros: 1, Ramp: true}}
		},
		`metre 3/4length 5key 1 repeat times 3 endings 4 jump dalsegno segno fine swing 60 break page mark "x"tempo 0 9`: func(m *api.Measure) {
			*m = api.Measure{Metre: api.Metre{Count: 3, Unit: 4}, Length: 5, Fifths: 1, RepeatStart: true, RepeatEnd: 3, Endings: 4, Jump: 4, Labels: 5, Swing: 60, Break: 2, Rehearsal: "x", Tempi: []api.TempoMark{{Micros: 9}}}
		},
	} {
		want := api.Measure{Metre: api.Metre{Count: 4, Unit: 4}}
		change(&want)
		want.ID, want.Cells = id(0, 3), []api.Cell{{}}
		if m := one(t, "measure "+s+"{}"); !reflect.DeepEqual(m, want) {
			t.Errorf("%s: %v; want %v", s, m, want)
		}
	}
}

// P19.1: metres and keys last until others are written; everything else does not.
func TestMeasuresInherit(t *testing.T) {
	x := read(t, start+"measure { } measure metre 3/4 length 7 segno { } measure key -2 { } measure { } measure metre 4/4 { } measure key 0 swing 50 { } measure { }")
	common, waltz := api.Metre{Count: 4, Unit: 4}, api.Metre{Count: 3, Unit: 4}
	for i, want := range []api.Measure{{Metre: common}, {Metre: waltz, Length: 7, Labels: 1}, {Metre: waltz, Fifths: -2}, {Metre: waltz, Fifths: -2}, {Metre: common, Fifths: -2}, {Metre: common, Swing: 50}, {Metre: common}} {
		want.ID, want.Cells = id(0, 3+i), []api.Cell{{}}
		if !reflect.DeepEqual(x.Measures[i], want) {
			t.Errorf("%d: %v; want %v", i, x.Measures[i], want)
		}
	}
}

// P19.1: the text of cells, and for each of them the numbers of events of the voices.
func TestCells(t *testing.T) {
	for s, want := range map[string][][]int{
		"":                                {nil},
		"clef 0 bass":                     {nil},
		"R":                               {{1}},
		"r:4 r:4":                         {{2}},
		";":                               {{0, 0}},
		"r:4;":                            {{1, 0}},
		";r:4":                            {{0, 1}},
		"R;R":                             {{1, 1}},
		"r:4;;r:4 s:4;":                   {{1, 0, 2, 0}},
		"/":                               {nil, nil},
		"R/":                              {{1}, nil},
		"/;/R":                            {nil, {0, 0}, {1}},
		"clef 3 alto/clef 0 bass R;R/R":   {nil, {1, 1}, {1}},
		"(3:2r:4)":                        {{1}},
		"(3:2 (3:2 r:4 r:4) r:4);(5:4 R)": {{3, 1}},
	} {
		m := one(t, "measure {"+s+"}")
		var got [][]int
		for _, c := range m.Cells {
			var l []int
			for _, v := range c.Voices {
				l = append(l, len(v.Events))
			}
			got = append(got, l)
		}
		if !reflect.DeepEqual(got, want) {
			t.Errorf("%s: %v; want %v", s, got, want)
		}
	}
	m := one(t, "measure { clef 0 bass clef 4398046511104 treble8 clef 0 tenor R / clef 5 alto }")
	if !slices.Equal(m.Cells[0].Clefs, []api.ClefChange{{At: 0, Clef: clef.Bass}, {At: api.MaxTime, Clef: clef.TrebleDown}, {At: 0, Clef: clef.Tenor}}) || !slices.Equal(m.Cells[1].Clefs, []api.ClefChange{{At: 5, Clef: clef.Alto}}) {
		t.Error(m.Cells)
	}
}

// P19.1, P19.3
func TestTuplets(t *testing.T) {
	for s, want := range map[string][]api.Tuplet{
		"":                      nil,
		"R":                     nil,
		"(3:2 R)":               {{First: 0, Count: 1, Actual: 3, Normal: 2}},
		"R(1:32 R R)R(32:1 R)R": {{First: 1, Count: 2, Actual: 1, Normal: 32}, {First: 4, Count: 1, Actual: 32, Normal: 1}},
		"(3:2 (5:4 R R) R)":     {{First: 0, Count: 3, Actual: 3, Normal: 2}, {First: 0, Count: 2, Actual: 5, Normal: 4}},
		"(3:2 R(5:4 R)(7:6 (9:8 R) R))(2:3 R)": {
			{First: 0, Count: 4, Actual: 3, Normal: 2}, {First: 1, Count: 1, Actual: 5, Normal: 4}, {First: 2, Count: 2, Actual: 7, Normal: 6}, {First: 2, Count: 1, Actual: 9, Normal: 8}, {First: 4, Count: 1, Actual: 2, Normal: 3},
		},
	} {
		v, line, column, e := Voice(s)
		if !slices.Equal(v.Tuplets, want) || len(v.Events) != strings.Count(s, "R") || line != 0 || column != 0 || e != api.OK {
			t.Errorf("%s: %v, %d, %d, %d; want %v", s, v, line, column, e, want)
		}
	}
}

// P19.1, P19.3
func TestEvents(t *testing.T) {
	head := func(step, alter, octave int) api.Head {
		return api.Head{Pitch: api.Pitch{Step: step, Alter: alter, Octave: octave}}
	}
	chord := func(l ...api.Head) api.Event {
		return api.Event{Kind: api.Chord, Value: api.Value{Log: 2}, Heads: l}
	}
	c := head(0, 0, 4)
	shown := func(tied bool, show int) api.Head { return api.Head{Pitch: c.Pitch, Tied: tied, Show: show} }
	with := func(change func(x *api.Event)) api.Event {
		x := chord(c)
		change(&x)
		return x
	}
	lyrics := func(l ...api.Syllable) api.Event { return with(func(x *api.Event) { x.Lyrics = l }) }
	for s, want := range map[string]api.Event{
		"R":                                     {Kind: api.MeasureRest},
		"r:1":                                   {Kind: api.Rest},
		"s:16..":                                {Kind: api.Skip, Value: api.Value{Log: 4, Dots: 2}},
		"r:b...":                                {Kind: api.Rest, Value: api.Value{Log: -1, Dots: 3}},
		"r : 256.":                              {Kind: api.Rest, Value: api.Value{Log: 8, Dots: 1}},
		"@5.6 R":                                {ID: id(5, 6), Kind: api.MeasureRest},
		"@0.1R":                                 {ID: id(0, 1), Kind: api.MeasureRest},
		"@ 99 . 1073741824 r:2":                 {ID: id(99, 1<<30), Kind: api.Rest, Value: api.Value{Log: 1}},
		"C4:4":                                  chord(c),
		"<C4>:4":                                chord(c),
		"C4 : 4":                                chord(c),
		"<C4 C4>:4":                             chord(c, c),
		"<G#5 Bb3 F##-1 Ebb0 C#4D-1 B-1 Cb9>:4": chord(head(4, 1, 5), head(6, -1, 3), head(3, 2, -1), head(2, -2, 0), head(0, 1, 4), head(1, 0, -1), head(6, 0, -1), head(0, -1, 9)),
		"C4~:4":                                 chord(shown(true, api.ShowNeeded)),
		"C4!:4":                                 chord(shown(false, api.ShowAlways)),
		"C4?:4":                                 chord(shown(false, api.ShowParentheses)),
		"C4~!:4":                                chord(shown(true, api.ShowAlways)),
		"C4 ~ ?:4":                              chord(shown(true, api.ShowParentheses)),
		"<C4~C4!C4>:4":                          chord(shown(true, 0), shown(false, 1), c),
		"grace(D4:8)C4:4":                       with(func(x *api.Event) { x.Graces = []api.Grace{{Pitch: api.Pitch{Step: 1, Octave: 4}, Log: 3}} }),
		"grace (/D#4:2 D4:4/D4:64 D-1:32 D4 : 16) R": {Kind: api.MeasureRest, Graces: []api.Grace{
			{Pitch: api.Pitch{Step: 1, Alter: 1, Octave: 4}, Log: 1, Slash: true}, {Pitch: api.Pitch{Step: 1, Octave: 4}, Log: 2}, {Pitch: api.Pitch{Step: 1, Octave: 4}, Log: 6, Slash: true}, {Pitch: api.Pitch{Step: 1, Octave: -1}, Log: 5}, {Pitch: api.Pitch{Step: 1, Octave: 4}, Log: 4},
		}},
		"r:4[fermata]":       {Kind: api.Rest, Value: api.Value{Log: 2}, Articulations: api.Fermata},
		`R "a"-`:             {Kind: api.MeasureRest, Lyrics: []api.Syllable{{Text: "a", Link: api.Hyphen}}},
		`C4:4"a"`:            lyrics(api.Syllable{Text: "a"}),
		`C4:4 "a"- "b"_ "c"`: lyrics(api.Syllable{Text: "a", Link: api.Hyphen}, api.Syllable{Text: "b", Link: api.Extender}, api.Syllable{Text: "c"}),
		`C4:4 "a"-"b"_"c"`:   lyrics(api.Syllable{Text: "a", Link: api.Hyphen}, api.Syllable{Text: "b", Link: api.Extender}, api.Syllable{Text: "c"}),
		`C4:4 "a" _`:         lyrics(api.Syllable{Text: "a"}, api.Syllable{Link: api.Extender}),
		"C4:4 \"a\"%\n_":     lyrics(api.Syllable{Text: "a"}, api.Syllable{Link: api.Extender}),
		`C4:4 "a"__`:         lyrics(api.Syllable{Text: "a", Link: api.Extender}, api.Syllable{Link: api.Extender}),
		`C4:4 "a"-_`:         lyrics(api.Syllable{Text: "a", Link: api.Hyphen}, api.Syllable{Link: api.Extender}),
		`C4:4__"a"`:          lyrics(api.Syllable{Link: api.Extender}, api.Syllable{Link: api.Extender}, api.Syllable{Text: "a"}),
		`C4:4 "" ""-`:        lyrics(api.Syllable{}, api.Syllable{Link: api.Hyphen}),
		`@7.8 grace(/D4:8)C4~:4[staccato p up]"a"`: {
			ID: id(7, 8), Kind: api.Chord, Value: api.Value{Log: 2}, Heads: []api.Head{shown(true, 0)}, Graces: []api.Grace{{Pitch: api.Pitch{Step: 1, Octave: 4}, Log: 3, Slash: true}},
			Articulations: api.Staccato, Dynamic: 3, Stem: api.StemUp, Lyrics: []api.Syllable{{Text: "a"}},
		},
	} {
		x, line, column, e := Event(s)
		if !reflect.DeepEqual(x, want) || line != 0 || column != 0 || e != api.OK {
			t.Errorf("Event(%q) = %v, %d, %d, %d; want %v", s, x, line, column, e, want)
		}
	}
}

// P19.1: the words in brackets, in their order.
func TestBrackets(t *testing.T) {
	type word struct {
		text  string
		group int
		set   func(x *api.Event)
	}
	var l []word
	for i, text := range strings.Fields("staccato tenuto accent marcato fermata") {
		l = append(l, word{text, i, func(x *api.Event) { x.Articulations += 1 << i }})
	}
	for i, text := range strings.Fields("trill mordent inverse turn") {
		l = append(l, word{text, 5, func(x *api.Event) { x.Ornament = 1 + i }})
	}
	for i, text := range strings.Fields("ppp pp p mp mf f ff fff sfz") {
		l = append(l, word{text, 6, func(x *api.Event) { x.Dynamic = 1 + i }})
	}
	for i, text := range strings.Fields("up down") {
		l = append(l, word{text, 7, func(x *api.Event) { x.Stem = 1 + i }})
	}
	for i, text := range strings.Fields("apart join") {
		l = append(l, word{text, 8, func(x *api.Event) { x.Beam = 1 + i }})
	}
	for i, a := range l {
		want := api.Event{Kind: api.MeasureRest}
		a.set(&want)
		if x, _, _, e := Event("R [" + a.text + "]"); !reflect.DeepEqual(x, want) || e != api.OK {
			t.Errorf("%s: %v, %d", a.text, x, e)
		}
		for k, b := range l {
			want := want
			b.set(&want)
			s := "R\n[ " + a.text + " " + b.text + " join"
			x, line, column, e := Event(s + " ]")
			switch {
			case i >= k || a.group == b.group:
				if !reflect.DeepEqual(x, api.Event{}) || line != 2 || column != 4+len(a.text) || e != api.ErrSyntax {
					t.Errorf("%s: %v, %d, %d, %d", s, x, line, column, e)
				}
			case b.group == 8:
				if line != 2 || column != 5+len(a.text)+len(b.text) || e != api.ErrSyntax {
					t.Errorf("%s: %v, %d, %d, %d", s, x, line, column, e)
				}
			default:
				want.Beam = api.BeamJoin
				if !reflect.DeepEqual(x, want) || e != api.OK {
					t.Errorf("%s: %v, %d", s, x, e)
				}
			}
		}
	}
	x, _, _, e := Event("R[staccato tenuto accent marcato fermata turn sfz down apart]")
	if e != api.OK || x.Articulations != 31 || x.Ornament != 4 || x.Dynamic != 9 || x.Stem != 2 || x.Beam != 1 {
		t.Error(x, e)
	}
}

// P19.1
func TestSpanners(t *testing.T) {
	x := read(t, `score "" slur(@0.1 @0.2) crescendo @3.4 (@5.6 @7.8) diminuendo ( @0.1 @0.1 ) octaveup (@0.1@0.2)octavedown(@99.1073741824 @0.1) pedal @0.1 (@0.1 @0.1) trill @0.2(@1.1 @1.2)`)
	a, b := id(0, 1), id(0, 2)
	want := []api.Spanner{
		{ID: id(0, 1), Kind: api.Slur, From: a, To: b}, {ID: id(3, 4), Kind: api.Crescendo, From: id(5, 6), To: id(7, 8)}, {ID: id(3, 5), Kind: api.Diminuendo, From: a, To: a}, {ID: id(3, 6), Kind: api.OctaveUp, From: a, To: b},
		{ID: id(3, 7), Kind: api.OctaveDown, From: id(99, 1<<30), To: a}, {ID: a, Kind: api.Pedal, From: a, To: a}, {ID: b, Kind: api.TrillLine, From: id(1, 1), To: id(1, 2)},
	}
	if !slices.Equal(x.Spanners, want) || !slices.Equal(x.Last, []api.ID{b, id(3, 7)}) {
		t.Error(x.Spanners, x.Last)
	}
}

// P19.1: ids that are not written follow the object before, and Last has the greatest numbers.
func TestIDs(t *testing.T) {
	x := read(t, `score "" part "" staff alto part "" staff @2.7 alto staff alto measure { R / R;R } measure @2.1 { @1.5 r:4 (3:2 r:4 @9.9 r:4) r:4 / ; } measure { } slur (@50.50 @60.60) slur @2.100 (@0.1 @0.1) slur (@0.1 @0.1)`)
	want := []api.ID{id(0, 1), id(0, 2), id(0, 3), id(2, 7), id(2, 8), id(2, 9), id(2, 10), id(2, 11), id(2, 12), id(2, 1), id(1, 5), id(1, 6), id(9, 9), id(9, 10), id(9, 11), id(9, 12), id(2, 100), id(2, 101)}
	if l := score.IDs(x); !slices.Equal(l, want) {
		t.Errorf("%v; want %v", l, want)
	}
	if !slices.Equal(x.Last, []api.ID{id(0, 3), id(1, 6), id(2, 101), id(9, 12)}) {
		t.Error(x.Last)
	}
	x = read(t, `score "" last @7.7 part "" part @0.1 "" part @99.1073741824 "" part @0.1073741823 "" staff alto`)
	if l := score.IDs(x); !slices.Equal(l, []api.ID{id(0, 1), id(0, 1), id(99, 1<<30), id(0, 1<<30-1), id(0, 1<<30)}) || !slices.Equal(x.Last, []api.ID{id(7, 7)}) {
		t.Error(l, x.Last)
	}
}

// P19.3
func TestDetached(t *testing.T) {
	x, _, _, e := Event("r:4")
	if x.ID != (api.ID{}) || e != api.OK {
		t.Error(x, e)
	}
	v, _, _, e := Voice("R @3.1073741824 R R @1.1 R R")
	var l []api.ID
	for _, x := range v.Events {
		l = append(l, x.ID)
	}
	if !slices.Equal(l, []api.ID{{}, id(3, 1<<30), {}, id(1, 1), {}}) || e != api.OK {
		t.Error(l, e)
	}
	// Other layers accept none of these.
	for _, s := range []string{"<C4 C4 C4>:4", `grace (C4:8) R [trill] "\x00"-`, `s:4 [sfz] "" "" "" "" "" ""`, "<" + strings.Repeat("C4 ", 40) + ">:4"} {
		if _, line, column, e := Event(s); line != 0 || column != 0 || e != api.OK {
			t.Errorf("Event(%q) = %d, %d, %d", s, line, column, e)
		}
	}
	for _, s := range []string{"R R", "(7:7 R)", "(3:2 r:4)", strings.Repeat("R ", 500), strings.Repeat("(3:2 ", 40) + "R" + strings.Repeat(")", 40)} {
		if _, line, column, e := Voice(s); line != 0 || column != 0 || e != api.OK {
			t.Errorf("Voice(%q) = %d, %d, %d", s, line, column, e)
		}
	}
}

// wrong reports a text that does not have an error at the token behind the mark ¦.
func wrong(t *testing.T, s string, e api.Errno, read func(s string) (zero bool, line, column int, e api.Errno)) {
	t.Helper()
	before, after, found := strings.Cut(s, "¦")
	if !found {
		t.Fatal(s)
	}
	line, column := 1+strings.Count(before, "\n"), len(before)-strings.LastIndex(before, "\n")
	if zero, l, c, f := read(before + after); !zero || l != line || c != column || f != e {
		t.Errorf("%s: %t, %d, %d, %d; want %d, %d, %d", s, zero, l, c, f, line, column, e)
	}
}

func readZero(s string) (bool, int, int, api.Errno) {
	x, line, column, e := Read(s)
	return reflect.DeepEqual(x, api.Score{}), line, column, e
}

func parseZero(s string) (bool, int, int, api.Errno) {
	x, line, column, e := Parse(s)
	return reflect.DeepEqual(x, api.Score{}), line, column, e
}

func eventZero(s string) (bool, int, int, api.Errno) {
	x, line, column, e := Event(s)
	return reflect.DeepEqual(x, api.Event{}), line, column, e
}

func voiceZero(s string) (bool, int, int, api.Errno) {
	x, line, column, e := Voice(s)
	return reflect.DeepEqual(x, api.Voice{}), line, column, e
}

// P19.1, P19.2
func TestScoreErrors(t *testing.T) {
	for e, l := range map[api.Errno][]string{
		api.ErrSyntax: {
			"¦", " \n % x\n ¦", "¦8", `¦"score"`, "¦Score \"\"", "score ¦", "score ¦5", "score ¦written", `score "" ¦""`, `score "" written ¦written`, `score "" last @0.1 ¦written`, `score "" last ¦`, `score "" last ¦part ""`, `score "" last @0.1 ¦last @0.1`, `score "" last ¦0.1`, `score "" last @¦`, `score "" last @0¦`, `score "" last @0¦-1`, `score "" last @0.¦`, `score "" last @¦a.1`,
			`score "" last @¦-1.1`, `score "" last @1.¦-1`,
			`score "" part ¦`, `score "" part ¦staff treble`, `score "" part "" ¦""`, `score "" part "" transpose ¦`, `score "" part "" transpose 1 ¦`, `score "" part "" transpose 1 ¦staff treble`, `score "" part "" transpose - ¦- 1 1`, `score "" part "" transpose -¦a`, `score "" part "" transpose 1 2 ¦3`, `score "" part "" transpose 1 2 ¦transpose 1 2`, `score "" part "" staff ¦`, `score "" part "" staff ¦8`, `score "" part "" staff ¦"treble"`, `score "" part "" staff treble ¦transpose 1 2`, `score "" part "" staff treble ¦treble`, `score "" ¦staff treble`,
			`score "" ¦foo`, `score "" ¦slurs (@0.1 @0.2)`, `score "" ¦turn (@0.1 @0.2)`, `score "" slur ¦`, `score "" slur (¦(@0.1 @0.2)`, `score "" slur (¦`, `score "" slur (@0.1¦`, `score "" slur (@0.1 ¦)`, `score "" slur (@0.1 @0.2¦`, `score "" slur (@0.1 @0.2 ¦@0.3)`, `score "" slur (@0.1 @0.2) ¦)`, `score "" slur (@0.1 @0.2) ¦measure { }`, `score "" slur (@0.1 @0.2) ¦part ""`, `score "" slur @0.1 ¦@0.2 (@0.1 @0.2)`, `score "" ¦(@0.1 @0.2)`, `score "" ¦@0.1 slur (@0.1 @0.2)`,
			start + "measure { } ¦part \"\"", start + "measure { } ¦staff treble", start + "measure ¦", start + "measure { ¦", start + "measure ¦}", start + "measure {} ¦}", start + "measure ¦8 {}", start + "¦{ }", start + "measure @0.5 ¦@0.6 { }",
		},
		api.ErrUnknown: {
			`score "" part "" staff ¦violin`, `score "" part "" staff ¦Treble`, `score "" part "" staff ¦staff`, `score "" part "" staff ¦treble9`, start + "measure { clef 0 ¦x }", start + "measure { clef 0 ¦R }", start + "measure jump ¦segno { }", start + "measure jump ¦fine fine { }", start + "measure jump ¦DaCapo { }", start + "measure break ¦line { }", start + "measure { R [¦loud] }", start + "measure { R [p ¦P] }", start + "measure { R [¦slur] }",
		},
		api.ErrRange: {
			`score "" last @¦100.1`, `score "" last @0.¦0`, `score "" last @0.¦1073741825`, `score "" last @¦999999999999999.0`, `score "" part @¦100.1 ""`, `score "" part "" transpose ¦141 0`, `score "" part "" transpose -¦141 0`, `score "" part "" transpose 0 - ¦141`, `score "" part "" transpose 0 ¦141`, `score "" part "" staff @0.¦0 x`,
			`score "" slur (@¦100.1 @0.1)`, `score "" slur (@0.1 @0.¦0)`, `score "" slur @0.¦0 (@0.1 @0.1)`,
		},
		api.ErrLimit: {
			`score "" part @0.1073741824 "" staff ¦treble`, `score "" part @0.1073741824 "" staff ¦violin`, `score "" part @0.1073741824 "" staff ¦`, `score "" part @0.1073741824 "" staff ¦8`, `score "" part @5.1073741824 "" part ¦""`, `score "" part @5.1073741824 "" part ¦part`, `score "" part @5.1073741824 "" measure ¦{ }`, `score "" part @5.1073741824 "" measure ¦metre 3/3 { }`, `score "" part @5.1073741824 "" measure` + "\n¦",
			`score "" part @5.1073741824 "" slur ¦(@0.1 @0.1)`, `score "" part @5.1073741824 "" slur ¦slur`, `score "" slur @5.1073741824 (@1.1 @1.1) slur @5.1073741823 (@1.1 @1.1) slur (@1.1 @1.1) slur ¦(@1.1 @1.1)`,
			start + "measure @0.1073741824 { ¦R }", start + "measure @0.1073741824 { ¦r }", start + "measure @0.1073741824 { (3:2 ¦C99:4) }", start + "measure @0.1073741823 { R ; ¦grace }", start + "measure @0.1073741823 { R / ¦<C4>:4 }",
		},
		api.ErrByte:  {"score ¦`", "foo ¦`", "score \"\\¦q\""},
		api.ErrShort: {`score ¦"`, `5 score ¦"a`},
		api.ErrLong:  {"¦" + strings.Repeat(" ", lexer.MaxSource+1), "5 ¦" + strings.Repeat("x", 65)},
	} {
		for _, s := range l {
			wrong(t, s, e, readZero)
			wrong(t, s, e, parseZero)
		}
	}
}

// P19.1
func TestMeasureErrors(t *testing.T) {
	for e, l := range map[api.Errno][]string{
		api.ErrSyntax: {
			"metre ¦{ }", "metre ¦x/4 { }", "metre ¦+3/4 { }", `metre ¦"3/4" { }`, "metre 3/4 ¦/ 4 { }", "metre 3/4 ¦+ { }", "metre 3/4 ¦4 { }", "metre 3/4 ¦metre 3/4 { }", "length ¦-1 { }", "length ¦{ }", "key ¦{ }", "key - ¦{ }", "key ¦+1 { }", "length 1 ¦metre 3/4 { }", "key 1 ¦length 1 { }", "repeat ¦key 1 { }", "repeat ¦repeat { }", "times 2 ¦repeat { }", "times ¦-2 { }", "endings 1 ¦times 2 { }", "jump dacapo ¦endings 1 { }", "jump ¦5 { }", `jump ¦"dacapo" { }`, "segno ¦jump dacapo { }", "coda ¦segno { }", "fine ¦coda { }", "tocoda ¦fine { }", "swing 1 ¦tocoda { }", "break page ¦swing 1 { }", `mark "" ¦break page { }`, "mark ¦A { }", `tempo 0 1 ¦mark "" { }`, "tempo ¦{ }", "tempo 0 ¦{ }", "tempo 0 1 ramp ¦ramp { }", "¦ramp { }", "tempo ¦-1 1 { }", "break ¦{ }",
			"{ clef ¦}", "{ clef 0 ¦}", "{ clef 0 ¦5 }", "{ clef ¦bass }", "{ R ¦clef 0 bass }", "{ ; ¦clef 0 bass }", "{ ¦x }", "{ ¦q:4 }", "{ ¦H4:4 }", "{ ¦c4:4 }", "{ ¦4 }", "{ ¦\"a\" }", "{ ¦_ }", "{ ¦[p] }", "{ R ¦: }", "{ R ¦] }", "{ R ¦) }", "{ R ¦|| R }", "{ R ¦, R }", "{ R ; R ¦{ } }", "{ ¦{ }", "{ R / ¦measure { } }",
		},
		api.ErrMetre: {
			"metre ¦3 { }", "metre ¦3/ 4 { }", "metre ¦3/3 { }", "metre ¦0/4 { }", "metre ¦65/4 { }", "metre ¦03/4 { }", "metre ¦3/4/4 { }", "metre ¦3+/4 { }", "metre ¦2+2 /4 { }", "metre ¦3/4+ { }", "metre ¦1+1+1+1+1+1+1/4 { }", "metre ¦3/%\n4 { }", "metre ¦3/4/ { }", "metre ¦" + strings.Repeat("1+", 20) + "1/4 { }", "metre ¦999999999999999/4 { }",
		},
		api.ErrRange: {
			"length ¦0 { }", "length ¦4398046511105 { }", "key ¦8 { }", "key -¦8 { }", "key -%\n¦8 { }", "times ¦0 { }", "times ¦1 { }", "times ¦9 { }", "endings ¦0 { }", "endings ¦256 { }", "swing ¦0 { }", "swing ¦101 { }", "tempo ¦4398046511105 1 { }", "tempo 0 ¦0 { }", "tempo 0 ¦60000001 { }", "{ clef ¦4398046511105 x }", "@¦100.0 { }", "@1.¦0 { }",
		},
	} {
		for _, s := range l {
			wrong(t, start+"measure "+s, e, readZero)
		}
	}
}

// P19.1, P19.3
func TestEventErrors(t *testing.T) {
	for e, l := range map[api.Errno][]string{
		api.ErrSyntax: {
			"¦x:4", "¦8:4", "¦:4", "¦R2", "¦R_", "¦rest:4", "@0.1 ¦", "@0.1 ¦@0.2 R", "@0.1 ¦)", "@0.1 ¦(3:2 R)", "@0.1 ¦clef 0 bass", "r ¦", "r ¦4", "r:¦", "r:¦c", "r:¦b4", "r:¦b_", "r:¦B", "r:¦.", "r:4 ¦.", "r:4.. ¦.", "r:4.¦5", "r:4.%\n¦.", "C4 ¦", "C4~ ¦~:4", "C4!¦~:4", "C4!¦?:4", "C4!¦!:4", "C4 ¦#:4", "C4 ¦- 4:4", "C4 ¦4:4", "C4:¦", "C4:¦x", "C4:4¦:4",
			"<¦>:4", "<¦", "<C4¦", "<C4 ¦4>:4", "<C4 ¦x>:4", "<C4 ¦R>:4", "<C4 ¦c4>:4", "<C4>¦", "<C4>¦4", "<C4 ¦<D4>>:4", "<C4 ¦:4>", "C4¦>:4",
			"grace ¦", "grace ¦C4:8", "grace (¦", "grace (¦) C4:4", "grace (¦8) C4:4", "grace (C4¦) C4:4", "grace (C4:¦) C4:4", "grace (C4:¦b) C4:4", "grace (C4:8¦.) C4:4", "grace (C4:8¦", "grace (C4:8 ¦~) C4:4", "grace (C4¦~:8) C4:4", "grace (/¦/C4:8) C4:4", "grace (/¦) C4:4", "grace (C4:8) ¦", "grace (C4:8) ¦grace (C4:8) C4:4", "grace (C4:8 ¦R) C4:4", "grace (C4:8) ¦@0.1 C4:4", "grace (C4:8) ¦[p]",
			"R ¦:4", "R [¦", "R [¦]", "R [¦8]", `R [¦"p"]`, "R [p¦", "R [p ¦8]", "R [p ¦, up]", "R [p ¦p]", "R [p ¦f]", "R [p ¦staccato]", "R [up ¦down]", "R [p] ¦[up]", "R \"a\" ¦[p]", "R [¦[p]]",
			`R ¦-`, `R "a" ¦-`, `R "a"-¦-`, `R "a"_¦-`, `R _¦-`, `R "a"¦~`, "R \"a\"%\n¦-", "s ¦", "s:¦", "¦S:4", "¦b", "¦;", "R¦;", "R ¦}",
		},
		api.ErrPitch: {
			"¦C:4", "¦C44:4", "¦Cx4:4", "¦C4b:4", "¦Grace (C4:4)", "¦B:4", "¦Cbb-1:4", "¦B9:4", "¦C10:4", "¦C###4:4", "¦C#b4:4", "¦C4#:4", "¦C4-:4", "¦C-2:4", "¦C#-:4", "¦C04:4", "¦C--1:4", "¦C #4:4", "¦C# 4:4", "¦C- 1:4", "¦C%\n4:4", "¦C4_:4", "<C4 ¦D>:4", "<¦C4D>:4", "¦A", "¦G##", "grace (¦C:8) C4:4", "grace (/¦C99:8) C4:4", "@0.1 ¦C", "<C4~ ¦C>:4", "¦F" + strings.Repeat("#", 1000) + "4:4",
		},
		api.ErrValue: {
			"r:¦0", "r:¦3", "r:¦512", "r:¦04", "r:¦4....", "r:¦4........", "r:¦b....", "s:¦5.", "C4:¦1000", "<C4>:¦24.", "C4:¦999999999999999", "r:¦4...." + strings.Repeat(".", 1000),
		},
		api.ErrRange: {
			"@¦100.1 R", "@0.¦0 R", "@0.¦1073741825 R", "grace (C4:¦0) C4:4", "grace (C4:¦1) C4:4", "grace (C4:¦3) C4:4", "grace (C4:¦128) C4:4", "grace (C4:¦63) C4:4", "grace (C4:¦96) C4:4", "grace (C4:8 C4:¦281474976710656) C4:4", "grace (C4:¦999999999999999) C4:4",
		},
		api.ErrUnknown: {"R [¦x]", "R [¦Staccato]", "R [staccato ¦mezzo f]", "R [¦apart_]", "R [¦trills]", "R [¦treble]", "R [sfz ¦x staccato]"},
		api.ErrByte:    {"¦`", "x ¦\x00"},
		api.ErrShort:   {"¦\"", "x ¦\"a"},
	} {
		for _, s := range l {
			wrong(t, s, e, eventZero)
			wrong(t, s, e, voiceZero)
		}
	}
	for _, s := range []string{"¦", "¦(3:2 R)", "C4:4 ¦D4:4", `R "a" ¦R`, "R ¦@0.1 R", "R ¦(3:2 R)", "R ¦grace (C4:8) R"} {
		wrong(t, s, api.ErrSyntax, eventZero)
		if _, _, _, e := Voice(strings.Replace(s, "¦", "", 1)); e != api.OK {
			t.Errorf("Voice(%q) = %d", s, e)
		}
	}
}

// P19.1, P19.3
func TestVoiceErrors(t *testing.T) {
	for e, l := range map[api.Errno][]string{
		api.ErrSyntax: {
			"¦;", "R ¦;", "R ¦/ R", "R ¦}", "¦)", "R ¦)", "¦x", "R ¦clef 0 bass", "R R @0.1¦", "(¦", "(¦)", "(3¦", "(3 ¦2 R)", "(3:¦", "(3:2¦", "(3:2 ¦)", "(3:2 R¦", "(3:2 R ¦;)", "(3:2 R) ¦)", "(3:2 (3:2 ¦))", "(3:2 R (3:2 ¦) R)", "(3:2 (3:2 R)¦", "(3:2 ¦3 R)", "(3:2 ¦clef 0 bass R)", "(3:¦-2 R)", "(¦x:2 R)", "(3:2 R ¦3:2)", "(3:2 @0.1 ¦)", "(3:2 ¦\"a\")",
		},
		api.ErrRange: {"(¦0:2 R)", "(¦33:2 R)", "(3:¦0 R)", "(3:¦33 R)", "R (3:2 (5:¦999 R))", "(¦0:99)"},
		api.ErrPitch: {"R (3:2 R ¦C)", "R ¦E", "¦D:4 ;"},
		api.ErrValue: {"R r:¦9", "(3:2 r:¦12)"},
	} {
		for _, s := range l {
			wrong(t, s, e, voiceZero)
			if !strings.HasSuffix(s, "¦") && !strings.ContainsAny(s[strings.Index(s, "¦"):], ";/}") {
				wrong(t, start+"measure {"+s+" }", e, readZero)
			}
		}
	}
}

// P19.2
func TestRule(t *testing.T) {
	for s, valid := range map[string]bool{
		`score ""¦`:                                            false,
		start + `¦`:                                            false,
		start + "measure { } % x\n\n ¦":                        false,
		start + "measure { R }":                                true,
		start + "measure { R ; } ¦":                            false,
		start + "measure { R / R }\t¦":                         false,
		start + "measure { r:2 }¦":                             false,
		start + "measure { r:2 r:2 }":                          true,
		start + "measure { @0.1 R }¦":                          false,
		start + "measure swing 50 { R }":                       true,
		start + "measure swing 49 { R }¦":                      false,
		`score "" last @0.9 part "" staff alto measure { R }`:  true,
		`score "" last @0.3 part "" staff alto measure { R }¦`: false,
		`score "\n" part "" staff alto measure { R }¦`:         false,
		start + "measure { C4~:1 }¦":                           false,
		start + "measure { C4~:2 C4:2 } slur (@0.4 @0.5)":      true,
		start + "measure { C4~:2 C4:2 } slur (@0.5 @0.4)¦":     false,
		start + "measure length 5 { R }¦":                      false,
	} {
		if !valid {
			wrong(t, s, api.ErrRule, parseZero)
			s = strings.Replace(s, "¦", "", 1)
		} else if x, line, column, e := Parse(s); !reflect.DeepEqual(x, read(t, s)) || line != 0 || column != 0 || e != api.OK {
			t.Errorf("%s: %d, %d, %d", s, line, column, e)
		}
		if check.Valid(read(t, s)) != valid {
			t.Errorf("%s: the test is wrong", s)
		}
	}
}

// P19.4
func TestKeywords(t *testing.T) {
	const all = `score written last part transpose staff measure metre length key repeat times endings jump segno coda fine tocoda swing break mark tempo ramp clef grace
		dacapo dacapofine dacapocoda dalsegno dalsegnofine dalsegnocoda system page never staccato tenuto accent marcato fermata trill mordent inverse turn
		ppp pp p mp mf f ff fff sfz up down apart join slur crescendo diminuendo octaveup octavedown pedal`
	want := strings.Fields(all)
	slices.Sort(want)
	if l := Keywords(); !slices.Equal(l, want) {
		t.Errorf("%q; want %q", l, want)
	}
	Keywords()[0] = "x"
	if Keywords()[0] != "accent" {
		t.Error("the words are shared")
	}
	for _, w := range Keywords() {
		if !lexer.IsWord(w) {
			t.Error(w)
		}
	}
}

// P1: texts that are as long, or as deeply nested, as the lexer permits.
func TestLarge(t *testing.T) {
	deep := lexer.MaxTokens / 5
	v, _, _, e := Voice(strings.Repeat("(1:1 ", deep-1) + "R" + strings.Repeat(")", deep-1))
	if e != api.OK || len(v.Tuplets) != deep-1 || v.Tuplets[deep-2] != (api.Tuplet{Count: 1, Actual: 1, Normal: 1}) {
		t.Error(len(v.Tuplets), e)
	}
	deep = lexer.MaxTokens / 4
	if _, line, column, e := Voice(strings.Repeat("(1:1", deep)); line != 1 || column != 1+4*deep || e != api.ErrSyntax {
		t.Error(line, column, e)
	}
	if _, line, column, e := Voice(strings.Repeat("(", lexer.MaxTokens+1)); line != 1 || column != lexer.MaxTokens+1 || e != api.ErrLimit {
		t.Error(line, column, e)
	}
	if _, _, _, e := Event("C" + strings.Repeat("-1", lexer.MaxTokens/2-4) + ":4"); e != api.ErrPitch {
		t.Error(e)
	}
	many := start + strings.Repeat("measure{R}", 5000)
	x := read(t, many)
	if len(x.Measures) != 5000 || x.Last[0] != id(0, 10002) {
		t.Error(len(x.Measures), x.Last)
	}
	if _, line, column, e := Parse(many); line != 1 || column != len(many)+1 || e != api.ErrRule {
		t.Error(line, column, e)
	}
	heads := "<C4" + strings.Repeat(" C4", lexer.MaxTokens/2-100) + ">:4"
	if y, _, _, e := Event(heads); e != api.OK || len(y.Heads) != lexer.MaxTokens/2-99 {
		t.Error(len(y.Heads), e)
	}
	lyrics := "R" + strings.Repeat(" _", lexer.MaxTokens-1)
	if y, _, _, e := Event(lyrics); e != api.OK || len(y.Lyrics) != lexer.MaxTokens-1 {
		t.Error(len(y.Lyrics), e)
	}
	events := start + "measure {" + strings.Repeat(" r:4", 60000) + "}"
	if _, line, column, e := Parse(events); line != 1 || column != len(events)+1 || e != api.ErrRule {
		t.Error(line, column, e)
	}
}

// P19.5
func TestCopies(t *testing.T) {
	s := `score "a" last @0.9 part "b" staff alto measure tempo 0 1 { clef 0 bass (3:2 grace (C4:8) <C4 E4>:4 "x" ) } slur (@0.1 @0.2)`
	a, b := read(t, s), read(t, s)
	change := func(x api.Score) {
		x.Parts[0].Name, x.Parts[0].Staves[0].Clef, x.Spanners[0].Kind, x.Last[0].Number = "", 0, 0, 0
		m := x.Measures[0]
		m.Tempi[0].At, m.Cells[0].Clefs[0].At = 7, 7
		v := m.Cells[0].Voices[0]
		v.Tuplets[0].Count, v.Events[0].Graces[0].Log, v.Events[0].Heads[1].Tied, v.Events[0].Lyrics[0].Text = 0, 0, true, ""
	}
	change(a)
	if !reflect.DeepEqual(b, read(t, s)) || reflect.DeepEqual(a, b) {
		t.Error("the scores are shared")
	}
}
