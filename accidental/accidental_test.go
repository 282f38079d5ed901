package accidental

import (
	"math"
	"math/rand"
	"slices"
	"strings"
	"testing"

	"hemiola/api"
	"hemiola/key"
)

var noFifths = []int{math.MinInt, -1 << 32, -100, -9, -8, 8, 9, 100, 1 << 32, math.MaxInt}

// list reads notes: a name, "_" before it if the note is held, "!" or "?" after it if its accidental is always shown or shown in parentheses, and "+" after it if the next note is at the same tick.
func list(names string) []Note {
	var l []Note
	at := 0
	for _, s := range strings.Fields(names) {
		var n Note
		n.At = at
		if !strings.HasSuffix(s, "+") {
			at += 100
		}
		s = strings.TrimSuffix(s, "+")
		switch {
		case strings.HasSuffix(s, "!"):
			n.Show = api.ShowAlways
		case strings.HasSuffix(s, "?"):
			n.Show = api.ShowParentheses
		}
		s, n.Held = strings.CutPrefix(strings.TrimRight(s, "!?"), "_")
		n.Pitch = api.Pitch{Step: strings.Index("CDEFGAB", s[:1]), Alter: strings.Count(s, "#") - strings.Count(s, "b"), Octave: int(s[len(s)-1] - '0')}
		if n.Pitch.Step < 0 {
			panic(s)
		}
		l = append(l, n)
	}
	return l
}

// words are the signs of marks, "-" if there is none.
func words(marks []Mark) string {
	var l []string
	for _, m := range marks {
		s := []string{"-", "bb", "b", "n", "#", "##"}[m.Kind]
		if m.Parentheses {
			s = "(" + s + ")"
		}
		l = append(l, s)
	}
	return strings.Join(l, " ")
}

// before is the alteration in force before the note i, found by looking back.
func before(fifths int, notes []Note, marks []Mark, i int) int {
	for k := i - 1; k >= 0; k-- {
		if notes[k].Pitch.Step == notes[i].Pitch.Step && notes[k].Pitch.Octave == notes[i].Pitch.Octave && marks[k] != (Mark{}) {
			return notes[k].Pitch.Alter
		}
	}
	alter, _ := key.Alter(fifths, notes[i].Pitch.Step)
	return alter
}

// contradicted reports whether some note at the tick and the staff position of the note i has another alteration.
func contradicted(notes []Note, i int) bool {
	n := notes[i]
	return slices.ContainsFunc(notes, func(m Note) bool {
		return m.At == n.At && m.Pitch.Step == n.Pitch.Step && m.Pitch.Octave == n.Pitch.Octave && m.Pitch.Alter != n.Pitch.Alter
	})
}

// shown are the marks of notes by the definition.
func shown(fifths int, notes []Note) []Mark {
	var marks []Mark
	for i, n := range notes {
		needs := !n.Held && n.Pitch.Alter != before(fifths, notes, marks, i) || contradicted(notes, i)
		m := Mark{map[int]int{-2: DoubleFlat, -1: Flat, 0: Natural, 1: Sharp, 2: DoubleSharp}[n.Pitch.Alter], false}
		switch {
		case needs || n.Show == api.ShowAlways:
		case n.Show == api.ShowParentheses:
			m.Parentheses = true
		default:
			m = Mark{}
		}
		marks = append(marks, m)
	}
	return marks
}

// some are notes near together, so that they often meet at their ticks and staff positions.
func some(r *rand.Rand) []Note {
	var l []Note
	at := 0
	steps, octaves := 1+r.Intn(7), 1+r.Intn(3)
	for range r.Intn(20) {
		at += r.Intn(3) / 2 * (1 + r.Intn(1000))
		n := Note{At: at, Pitch: api.Pitch{Step: r.Intn(steps), Alter: r.Intn(5) - 2, Octave: r.Intn(octaves)*5 - 1}, Held: r.Intn(4) == 0, Show: max(0, r.Intn(6)-3)}
		if r.Intn(2) == 0 {
			n.Pitch.Alter /= 2
		}
		l = append(l, n)
	}
	return l
}

// placesOf are notes as they are displayed with marks.
func placesOf(notes []Note, marks []Mark) []Place {
	var l []Place
	for i, n := range notes {
		p := Place{At: n.At, Step: n.Pitch.Step, Octave: n.Pitch.Octave, Mark: marks[i], Held: n.Held}
		if n.Held {
			p.Before = n.Pitch.Alter
		}
		l = append(l, p)
	}
	return l
}

func altersOf(notes []Note) []int {
	var l []int
	for _, n := range notes {
		l = append(l, n.Pitch.Alter)
	}
	return l
}

// P10.1
func TestDisplay(t *testing.T) {
	for _, c := range []struct {
		fifths      int
		notes, want string
	}{
		{0, "", ""},
		{-1, "Bb4 B4 B4 Bb4", "- n - b"},
		{-1, "Bb4 B4 Ab5 B4 Bb4", "- n b - b"},
		{0, "A4 Ab5 A4 Ab4 A5 A4", "- b - b n n"}, // octaves do not matter to one another
		{0, "_F#4 F#4 F#4 F4", "- # - n"},
		{0, "C4+ C#4", "n #"},
		{0, "C4+ C#4 C4 C4", "n # n -"},
		{0, "C#4+ C4 C4 C#4", "# n - #"},
		{0, "C4+ C4 C4", "- - -"},
		{0, "C#4+ C#4 C#4", "# - -"}, // of the same alteration, the first one has the mark
		{0, "C4+ D4+ C#4+ D4 C4", "n - # - n"},
		{0, "_C4+ C#4 C4", "n # n"},  // a note that is held needs a mark, too, if another one contradicts it
		{0, "_C4+ _C#4 C4", "n # n"}, // also if both are
		{0, "_C#4 C4", "- -"},        // without a mark, what is held is not in force
		{0, "_C#4! C#4 C4", "# - n"}, // with one, it is
		{0, "_C#4? C#4", "(#) -"},    // also in parentheses
		{0, "C4! C4? C4", "n (n) -"},
		{0, "C#4! C#4? C4?", "# (#) n"},
		{0, "C#4? C4?+ C#4?", "# n #"}, // no parentheses if the mark is needed
		{2, "F#4 F4 F#4 C#5 C5 C#4", "- n # - n -"},
		{2, "F##4 F#4 Fb4 Fbb4 F4", "## # b bb n"},
		{-7, "Cb4 C4 Fb4 F#4 Bbb4", "- n - # bb"},
		{7, "C#4 C4 B#4 Bb4", "- n - b"},
		{0, "E#4 F4 Fb4 E4", "# - b n"}, // staff positions, not numbers
	} {
		marks, e := Display(c.fifths, list(c.notes))
		if words(marks) != c.want || e != api.OK {
			t.Errorf("Display(%d, %s) = %s, %d; want %s", c.fifths, c.notes, words(marks), e, c.want)
		}
	}
	r := rand.New(rand.NewSource(1))
	for range 20000 {
		notes, fifths := some(r), r.Intn(15)-7
		if marks, e := Display(fifths, notes); !slices.Equal(marks, shown(fifths, notes)) || e != api.OK {
			t.Errorf("Display(%d, %v) = %s, %d; want %s", fifths, notes, words(marks), e, words(shown(fifths, notes)))
		}
	}
	if None != 0 || DoubleFlat != 1 || Flat != 2 || Natural != 3 || Sharp != 4 || DoubleSharp != 5 || MaxNotes != 2560 || Positions != 77 {
		t.Error("constants")
	}
}

// P10.1: pitches without a number, and the greatest ticks.
func TestDisplayLimits(t *testing.T) {
	notes := []Note{{Pitch: api.Pitch{Alter: -2, Octave: -1}}, {Pitch: api.Pitch{Step: 6, Alter: 2, Octave: 9}}, {At: math.MaxInt, Pitch: api.Pitch{Octave: -1}}, {At: math.MaxInt, Pitch: api.Pitch{Step: 6, Octave: 9}}}
	if marks, e := Display(0, notes); words(marks) != "bb ## n n" || e != api.OK {
		t.Errorf("Display = %s, %d", words(marks), e)
	}
	long := slices.Repeat(list("C4+ C#5+"), MaxNotes/2)
	if marks, e := Display(0, long); len(marks) != MaxNotes || strings.Count(words(marks), "#") != 1 || e != api.OK {
		t.Errorf("Display of %d notes: %d marks, %d", len(long), len(marks), e)
	}
	if array, e := Carry(0, long); array[42] != 1 || e != api.OK {
		t.Errorf("Carry of %d notes: %v, %d", len(long), array, e)
	}
}

// P10.1, P10.3
func TestNoteErrors(t *testing.T) {
	fine := Note{At: 5, Pitch: api.Pitch{Octave: 4}}
	long := slices.Repeat([]Note{fine}, MaxNotes+1)
	with := func(n Note) []Note { return []Note{fine, n, fine} }
	wrong := Note{At: -1, Pitch: api.Pitch{Step: 7}, Show: 3}
	for _, c := range []struct {
		fifths int
		notes  []Note
		want   api.Errno
	}{
		{8, nil, api.ErrRange}, {-8, []Note{wrong}, api.ErrRange}, {8, long, api.ErrRange},
		{0, long, api.ErrLimit}, {0, append([]Note{wrong}, long...), api.ErrLimit},
		{0, []Note{{At: -1}}, api.ErrOrder}, {0, []Note{{At: math.MinInt}}, api.ErrOrder}, {0, []Note{wrong}, api.ErrOrder},
		{0, with(Note{At: 4}), api.ErrOrder}, {0, with(Note{At: 4, Pitch: api.Pitch{Alter: 3}, Show: 3}), api.ErrOrder}, {0, with(Note{At: 6}), api.ErrOrder},
		{0, with(Note{At: 5, Pitch: api.Pitch{Step: -1}}), api.ErrPitch}, {0, with(Note{At: 5, Pitch: api.Pitch{Step: 7}}), api.ErrPitch}, {0, with(Note{At: 5, Pitch: api.Pitch{Step: math.MaxInt}}), api.ErrPitch},
		{0, with(Note{At: 5, Pitch: api.Pitch{Alter: -3}}), api.ErrPitch}, {0, with(Note{At: 5, Pitch: api.Pitch{Alter: 3}}), api.ErrPitch}, {0, with(Note{At: 5, Pitch: api.Pitch{Alter: math.MinInt}}), api.ErrPitch},
		{0, with(Note{At: 5, Pitch: api.Pitch{Octave: -2}}), api.ErrPitch}, {0, with(Note{At: 5, Pitch: api.Pitch{Octave: 10}}), api.ErrPitch}, {0, with(Note{At: 5, Pitch: api.Pitch{Octave: math.MaxInt}}), api.ErrPitch},
		{0, with(Note{At: 5, Pitch: api.Pitch{Alter: 3}, Show: 3}), api.ErrPitch},
		{0, with(Note{At: 5, Show: -1}), api.ErrKind}, {0, with(Note{At: 5, Show: 3}), api.ErrKind}, {0, with(Note{At: 6, Show: math.MaxInt}), api.ErrKind},
		{0, []Note{{Show: 3}, {Pitch: api.Pitch{Step: 7}}}, api.ErrKind}, // the first note first
		{0, []Note{{Pitch: api.Pitch{Step: 7}}, {At: -1}}, api.ErrPitch},
	} {
		if marks, e := Display(c.fifths, c.notes); len(marks) != 0 || e != c.want {
			t.Errorf("Display(%d, %v) = %v, %d; want %d", c.fifths, c.notes[:min(3, len(c.notes))], marks, e, c.want)
		}
		if array, e := Carry(c.fifths, c.notes); array != ([Positions]int{}) || e != c.want {
			t.Errorf("Carry(%d, %v) = %v, %d; want %d", c.fifths, c.notes[:min(3, len(c.notes))], array, e, c.want)
		}
	}
	for _, fifths := range noFifths {
		marks, e := Display(fifths, []Note{fine})
		array, f := Carry(fifths, []Note{fine})
		places, g := Read(fifths, []Place{{}})
		if len(marks) != 0 || array != ([Positions]int{}) || len(places) != 0 || e != api.ErrRange || f != api.ErrRange || g != api.ErrRange {
			t.Errorf("in %d: %v, %d, %v, %d, %v, %d", fifths, marks, e, array, f, places, g)
		}
	}
}

// read are the alterations of places by the definition.
func read(fifths int, places []Place) []int {
	var l []int
	for i, p := range places {
		alter, _ := key.Alter(fifths, p.Step)
		for _, q := range places[:i+1] {
			if q.Step == p.Step && q.Octave == p.Octave && q.Mark.Kind != None {
				alter = []int{-2, -1, 0, 1, 2}[q.Mark.Kind-1]
			}
		}
		if p.Mark.Kind == None && p.Held {
			alter = p.Before
		}
		l = append(l, alter)
	}
	return l
}

// P10.2
func TestRead(t *testing.T) {
	a4 := func(kind int) Place { return Place{Step: 5, Octave: 4, Mark: Mark{Kind: kind}} }
	held := func(kind, before int) Place {
		return Place{Step: 5, Octave: 4, Mark: Mark{Kind: kind}, Held: true, Before: before}
	}
	for _, c := range []struct {
		fifths int
		places []Place
		want   []int
	}{
		{0, nil, nil},
		{0, []Place{a4(None), a4(DoubleFlat), a4(None), a4(Flat), a4(Natural), a4(Sharp), a4(DoubleSharp), a4(None)}, []int{0, -2, -2, -1, 0, 1, 2, 2}},
		{-3, []Place{a4(None), a4(Natural), a4(None)}, []int{-1, 0, 0}},
		{0, []Place{held(None, 1), a4(None)}, []int{1, 0}},                 // what is held is not in force
		{0, []Place{held(Flat, 1), a4(None)}, []int{-1, -1}},               // its mark is
		{0, []Place{a4(Sharp), held(None, -2), a4(None)}, []int{1, -2, 1}}, // Before, not what is in force
		{0, []Place{a4(Sharp), {Step: 5, Octave: 5}, {Step: 4, Octave: 4}}, []int{1, 0, 0}},
		{0, []Place{{Step: 5, Octave: 4, Mark: Mark{Flat, true}}, a4(None)}, []int{-1, -1}},
		{0, []Place{{Step: 5, Octave: 4, Mark: Mark{None, true}}}, []int{0}}, // parentheses around nothing
		{0, []Place{{Step: 5, Octave: 4, Before: 2}}, []int{0}},              // not held
		{0, []Place{{Step: 5, Octave: 4, Before: 99}, a4(None)}, []int{0, 0}},
		{0, []Place{a4(Natural), a4(Sharp), {At: 1, Step: 5, Octave: 4}}, []int{0, 1, 1}}, // a chord
		{7, []Place{{Octave: -1}, {Step: 6, Octave: 9}}, []int{1, 1}},
	} {
		if l, e := Read(c.fifths, c.places); !slices.Equal(l, c.want) || e != api.OK {
			t.Errorf("Read(%d, %v) = %v, %d; want %v", c.fifths, c.places, l, e, c.want)
		}
	}
	r := rand.New(rand.NewSource(2))
	for range 5000 {
		fifths := r.Intn(15) - 7
		var places []Place
		for _, n := range some(r) {
			kind := max(0, r.Intn(11)-5)
			places = append(places, Place{n.At, n.Pitch.Step, n.Pitch.Octave, Mark{kind, r.Intn(2) == 0}, n.Held, n.Pitch.Alter})
		}
		if l, e := Read(fifths, places); !slices.Equal(l, read(fifths, places)) || e != api.OK {
			t.Errorf("Read(%d, %v) = %v, %d; want %v", fifths, places, l, e, read(fifths, places))
		}
	}
}

// P10.2
func TestReadErrors(t *testing.T) {
	fine := Place{At: 5, Octave: 4}
	long := slices.Repeat([]Place{fine}, MaxNotes+1)
	with := func(p Place) []Place { return []Place{fine, p, fine} }
	wrong := Place{At: -1, Step: 7, Mark: Mark{Kind: 6}, Held: true, Before: 3}
	for _, c := range []struct {
		fifths int
		places []Place
		want   api.Errno
	}{
		{8, nil, api.ErrRange}, {-8, []Place{wrong}, api.ErrRange}, {8, long, api.ErrRange},
		{0, long, api.ErrLimit}, {0, append([]Place{wrong}, long...), api.ErrLimit}, {0, long[1:], api.OK},
		{0, []Place{wrong}, api.ErrOrder}, {0, []Place{{At: math.MinInt}}, api.ErrOrder}, {0, with(Place{At: 4, Step: 7}), api.ErrOrder}, {0, with(Place{At: 6}), api.ErrOrder},
		{0, with(Place{At: 5, Step: -1}), api.ErrPitch}, {0, with(Place{At: 5, Step: 7, Mark: Mark{Kind: 6}}), api.ErrPitch}, {0, with(Place{At: 5, Step: math.MaxInt}), api.ErrPitch},
		{0, with(Place{At: 5, Octave: -2}), api.ErrPitch}, {0, with(Place{At: 5, Octave: 10, Held: true, Before: 3}), api.ErrPitch}, {0, with(Place{At: 5, Octave: math.MinInt}), api.ErrPitch},
		{0, with(Place{At: 5, Mark: Mark{Kind: -1}}), api.ErrKind}, {0, with(Place{At: 5, Mark: Mark{Kind: 6}, Held: true, Before: 3}), api.ErrKind}, {0, with(Place{At: 5, Mark: Mark{Kind: math.MaxInt}}), api.ErrKind},
		{0, with(Place{At: 5, Held: true, Before: -3}), api.ErrRange}, {0, with(Place{At: 5, Held: true, Before: 3}), api.ErrRange}, {0, with(Place{At: 5, Mark: Mark{Kind: Flat}, Held: true, Before: math.MaxInt}), api.ErrRange},
		{0, []Place{{Held: true, Before: 3}, wrong}, api.ErrRange}, // the first place first
		{0, []Place{{Mark: Mark{Kind: 6}}, {Step: 7}}, api.ErrKind},
	} {
		if l, e := Read(c.fifths, c.places); e != c.want || e != api.OK && len(l) != 0 {
			t.Errorf("Read(%d, %v) = %v, %d; want %d", c.fifths, c.places[:min(3, len(c.places))], l, e, c.want)
		}
	}
}

// P10.3
func TestCarry(t *testing.T) {
	for fifths := -7; fifths <= 7; fifths++ {
		array, e := Carry(fifths, nil)
		for i, alter := range array {
			if want, _ := key.Alter(fifths, i%7); alter != want || e != api.OK {
				t.Errorf("Carry(%d) = %v, %d", fifths, array, e)
			}
		}
	}
	for _, c := range []struct {
		notes string
		index int
		want  int
	}{
		{"C4", 35, 0}, {"C#4", 35, 1}, {"C#4 C4", 35, 0}, {"C4+ C#4", 35, 1}, {"C#4+ C4", 35, 0}, {"_C#4", 35, 0}, {"_C#4!", 35, 1}, {"C##4", 42, 0}, {"Bbb0", 13, -2}, {"G#9", 74, 1}, {"A#9 A#9", 75, 1},
	} {
		array, e := Carry(0, list(c.notes))
		if array[c.index] != c.want || e != api.OK {
			t.Errorf("Carry(0, %s): %d at %d, %d; want %d", c.notes, array[c.index], c.index, e, c.want)
		}
	}
	array, e := Carry(0, []Note{{Pitch: api.Pitch{Alter: -1, Octave: -1}}, {Pitch: api.Pitch{Step: 6, Alter: 2, Octave: 9}}})
	if array[0] != -1 || array[76] != 2 || e != api.OK {
		t.Errorf("Carry of the outermost notes = %v, %d", array, e)
	}
	r := rand.New(rand.NewSource(3))
	for range 5000 {
		notes, fifths := some(r), r.Intn(15)-7
		marks := shown(fifths, notes)
		var want [Positions]int
		for i := range want { // what would be in force for one more note
			want[i] = before(fifths, append(slices.Clone(notes), Note{Pitch: api.Pitch{Step: i % 7, Octave: i/7 - 1}}), marks, len(notes))
		}
		if array, e := Carry(fifths, notes); array != want || e != api.OK {
			t.Errorf("Carry(%d, %v) = %v, %d; want %v", fifths, notes, array, e, want)
		}
	}
}

// P10.4
func TestOf(t *testing.T) {
	for i, kind := range []int{DoubleFlat, Flat, Natural, Sharp, DoubleSharp} {
		if n, e := Of(i - 2); n != kind || e != api.OK {
			t.Errorf("Of(%d) = %d, %d", i-2, n, e)
		}
		if n, e := Alter(kind); n != i-2 || e != api.OK {
			t.Errorf("Alter(%d) = %d, %d", kind, n, e)
		}
	}
	for _, alter := range []int{math.MinInt, -4, -3, 3, 4, math.MaxInt} {
		if n, e := Of(alter); n != 0 || e != api.ErrRange {
			t.Errorf("Of(%d) = %d, %d", alter, n, e)
		}
	}
	for _, kind := range []int{math.MinInt, -1, 0, 6, 7, math.MaxInt} {
		if n, e := Alter(kind); n != 0 || e != api.ErrKind {
			t.Errorf("Alter(%d) = %d, %d", kind, n, e)
		}
	}
}

// P10.5: what is displayed can be read back, and no mark that is needed can be left out.
func TestReadBack(t *testing.T) {
	r := rand.New(rand.NewSource(4))
	for range 5000 {
		notes, fifths := some(r), r.Intn(15)-7
		marks, _ := Display(fifths, notes)
		places := placesOf(notes, marks)
		if l, e := Read(fifths, places); !slices.Equal(l, altersOf(notes)) || e != api.OK {
			t.Errorf("%v in %d are displayed as %s, and read as %v, %d", notes, fifths, words(marks), l, e)
		}
		for i, n := range notes {
			if n.Held || n.Pitch.Alter == before(fifths, notes, marks, i) {
				continue
			}
			less := slices.Clone(places)
			less[i].Mark = Mark{}
			if l, _ := Read(fifths, less); l[i] == n.Pitch.Alter {
				t.Errorf("%v in %d are displayed as %s: the mark of %d is not needed", notes, fifths, words(marks), i)
			}
		}
	}
}

// P10.5: the notes of the scale have no marks, and later ticks do not matter.
func TestConsequences(t *testing.T) {
	r := rand.New(rand.NewSource(5))
	for range 3000 {
		notes, fifths := some(r), r.Intn(15)-7
		marks, _ := Display(fifths, notes)
		for i := range notes {
			if i > 0 && notes[i].At == notes[i-1].At {
				continue
			}
			if l, e := Display(fifths, notes[:i]); !slices.Equal(l, marks[:i]) || e != api.OK {
				t.Errorf("Display(%d, %v) = %s, %d; with later notes: %s", fifths, notes[:i], words(l), e, words(marks))
			}
		}
		for i := range notes {
			notes[i].Pitch.Alter, _ = key.Alter(fifths, notes[i].Pitch.Step)
			notes[i].Show = api.ShowNeeded
		}
		if l, e := Display(fifths, notes); strings.Trim(words(l), "- ") != "" || e != api.OK {
			t.Errorf("Display(%d, %v) = %s, %d", fifths, notes, words(l), e)
		}
	}
}

// P10.5: arguments are not modified, and results are new.
func TestMemory(t *testing.T) {
	notes := list("F#4 F4+ F#4? _G#4")
	places := placesOf(notes, shown(0, notes))
	for range 2 {
		marks, _ := Display(0, notes)
		alters, _ := Read(0, places)
		array, _ := Carry(0, notes)
		if words(marks) != "# n # -" || !slices.Equal(alters, []int{1, 0, 1, 1}) || array[38] != 1 {
			t.Error(words(marks), alters, array)
		}
		marks[0], alters[0], array[38] = Mark{}, 9, 9
	}
	if !slices.Equal(notes, list("F#4 F4+ F#4? _G#4")) || !slices.Equal(places, placesOf(notes, shown(0, notes))) {
		t.Error(notes, places)
	}
}
