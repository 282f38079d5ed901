package clef

import (
	"math"
	"math/rand"
	"slices"
	"strings"
	"testing"

	"hemiola/api"
	"hemiola/pitch"
)

// known is what the chapter's table says of a clef, with the pitch on the middle line by its name.
type known struct {
	clef          int
	name          string
	letter        byte
	line, octaves int
	middle        string
}

var clefs = []known{
	{Treble, "treble", 'G', -2, 0, "B4"},
	{Bass, "bass", 'F', 2, 0, "D3"},
	{Alto, "alto", 'C', 0, 0, "C4"},
	{Tenor, "tenor", 'C', 2, 0, "A3"},
	{Soprano, "soprano", 'C', -4, 0, "G4"},
	{MezzoSoprano, "mezzosoprano", 'C', -2, 0, "E4"},
	{Baritone, "baritone", 'F', 0, 0, "F3"},
	{TrebleDown, "treble8", 'G', -2, -1, "B3"},
	{BassDown, "bass8", 'F', 2, -1, "D2"},
}

var (
	noClefs   = []int{math.MinInt, -1 << 32, -9, -1, 0, 10, 11, 100, 1 << 32, math.MaxInt}
	noFifths  = []int{math.MinInt, -1 << 32, -100, -9, -8, 8, 9, 100, 1 << 32, math.MaxInt}
	noPitches = []api.Pitch{{Alter: -1, Octave: -1}, {Alter: 3, Octave: 4}, {Alter: -3, Octave: 4}, {Step: 4, Alter: 1, Octave: 9}, {Step: 5, Octave: 9}, {Step: 7, Octave: 4}, {Step: -1, Octave: 4}, {Octave: -2}, {Octave: 10}, {Step: math.MaxInt, Alter: math.MaxInt, Octave: math.MaxInt}, {Step: math.MinInt, Alter: math.MinInt, Octave: math.MinInt}, {Octave: math.MaxInt}}
)

// named is the pitch with a name.
func named(s string) api.Pitch {
	p, _, e := pitch.Parse(s)
	if e != api.OK {
		panic(s)
	}
	return p
}

// pitches are all pitches that exist.
func pitches() []api.Pitch {
	var l []api.Pitch
	for octave := -1; octave <= 9; octave++ {
		for step := range 7 {
			for alter := -2; alter <= 2; alter++ {
				if p := (api.Pitch{Step: step, Alter: alter, Octave: octave}); pitch.Check(p) == api.OK {
					l = append(l, p)
				}
			}
		}
	}
	return l
}

// height counts the steps from the pitch on the middle line up or down to another one.
func height(middle string, p api.Pitch) int {
	q, n := named(middle), 0
	for ; q.Octave < p.Octave || q.Octave == p.Octave && q.Step < p.Step; n++ {
		if q.Step++; q.Step == 7 {
			q.Step, q.Octave = 0, q.Octave+1
		}
	}
	for ; q.Octave > p.Octave || q.Octave == p.Octave && q.Step > p.Step; n-- {
		if q.Step--; q.Step == -1 {
			q.Step, q.Octave = 6, q.Octave-1
		}
	}
	return n
}

// P8.1
func TestCheck(t *testing.T) {
	for clef := 1; clef <= 9; clef++ {
		if e := Check(clef); e != api.OK {
			t.Errorf("Check(%d) = %d", clef, e)
		}
	}
	for _, clef := range noClefs {
		if e := Check(clef); e != api.ErrKind {
			t.Errorf("Check(%d) = %d", clef, e)
		}
	}
	if !slices.Equal([]int{Treble, Bass, Alto, Tenor, Soprano, MezzoSoprano, Baritone, TrebleDown, BassDown}, []int{1, 2, 3, 4, 5, 6, 7, 8, 9}) || NumClefs != 9 || MaxPosition != 200 {
		t.Error("constants")
	}
}

// P8.1
func TestNames(t *testing.T) {
	for _, c := range clefs {
		if s, e := Name(c.clef); s != c.name || e != api.OK {
			t.Errorf("Name(%d) = %q, %d", c.clef, s, e)
		}
		if n, e := Find(c.name); n != c.clef || e != api.OK {
			t.Errorf("Find(%q) = %d, %d", c.name, n, e)
		}
		letter, line, octaves, e := Sign(c.clef)
		if letter != c.letter || line != c.line || octaves != c.octaves || e != api.OK {
			t.Errorf("Sign(%d) = %c, %d, %d, %d", c.clef, letter, line, octaves, e)
		}
	}
	for _, s := range []string{"", " ", "Treble", "treble ", " treble", "trebl", "treble88", "8", "bass-8", "mezzo", "mezzo-soprano", "violin", "G", "\x00", strings.Repeat("treble", 1000)} {
		if n, e := Find(s); n != 0 || e != api.ErrNotFound {
			t.Errorf("Find(%q) = %d, %d", s, n, e)
		}
	}
	for _, clef := range noClefs {
		if s, e := Name(clef); s != "" || e != api.ErrKind {
			t.Errorf("Name(%d) = %q, %d", clef, s, e)
		}
		if letter, line, octaves, e := Sign(clef); letter != 0 || line != 0 || octaves != 0 || e != api.ErrKind {
			t.Errorf("Sign(%d) = %c, %d, %d, %d", clef, letter, line, octaves, e)
		}
	}
}

// P8.1, P8.3: the line of the sign is that of the pitch after which the clef is called, G4, F3 or C4, or an octave below it.
func TestSignLine(t *testing.T) {
	for _, c := range clefs {
		letter, line, octaves, _ := Sign(c.clef)
		want := map[byte]api.Pitch{'G': named("G4"), 'F': named("F3"), 'C': named("C4")}[letter]
		want.Octave += octaves
		if p, e := At(c.clef, line); p != want || e != api.OK {
			t.Errorf("%s: %v is on the line of the sign, %d; want %v", c.name, p, e, want)
		}
	}
}

// P8.2
func TestPosition(t *testing.T) {
	for _, c := range []struct {
		clef  int
		pitch string
		want  int
	}{
		{Treble, "C4", -6}, {Treble, "B4", 0}, {Treble, "Bbb4", 0}, {Treble, "C#5", 1}, {Treble, "F5", 4}, {Treble, "E4", -4}, {Treble, "C-1", -41}, {Treble, "G9", 33},
		{Alto, "C4", 0}, {Bass, "A0", -17}, {Bass, "C4", 6}, {Tenor, "C4", 2}, {Soprano, "C4", -4}, {MezzoSoprano, "C4", -2}, {Baritone, "F##3", 0}, {TrebleDown, "C4", 1}, {BassDown, "C4", 13}, {BassDown, "G9", 52},
	} {
		if n, e := Position(c.clef, named(c.pitch)); n != c.want || e != api.OK {
			t.Errorf("Position(%d, %s) = %d, %d; want %d", c.clef, c.pitch, n, e, c.want)
		}
	}
	for _, c := range clefs {
		for _, p := range pitches() {
			if n, e := Position(c.clef, p); n != height(c.middle, p) || e != api.OK {
				t.Errorf("Position(%d, %v) = %d, %d; want %d", c.clef, p, n, e, height(c.middle, p))
			}
		}
		for _, p := range noPitches {
			if n, e := Position(c.clef, p); n != 0 || e != api.ErrPitch {
				t.Errorf("Position(%d, %v) = %d, %d", c.clef, p, n, e)
			}
		}
	}
	for _, clef := range noClefs {
		for _, p := range append(noPitches, named("C4")) { // the clef is looked at first
			if n, e := Position(clef, p); n != 0 || e != api.ErrKind {
				t.Errorf("Position(%d, %v) = %d, %d", clef, p, n, e)
			}
		}
	}
}

// P8.3
func TestAt(t *testing.T) {
	if p, e := At(Bass, -17); p != named("A0") || e != api.OK {
		t.Errorf("At(Bass, -17) = %v, %d", p, e)
	}
	for _, c := range clefs {
		at := map[int]api.Pitch{}
		for _, p := range pitches() {
			if p.Alter == 0 {
				at[height(c.middle, p)] = p
			}
		}
		for position := -300; position <= 300; position++ {
			want, ok := at[position]
			p, e := At(c.clef, position)
			if p != want || ok != (e == api.OK) || !ok && e != api.ErrRange {
				t.Errorf("At(%d, %d) = %v, %d; want %v", c.clef, position, p, e, want)
			}
		}
		for _, position := range []int{math.MinInt, math.MinInt + 20, -1 << 32, 1 << 32, math.MaxInt - 20, math.MaxInt} {
			if p, e := At(c.clef, position); p != (api.Pitch{}) || e != api.ErrRange {
				t.Errorf("At(%d, %d) = %v, %d", c.clef, position, p, e)
			}
		}
	}
	for _, clef := range noClefs {
		for _, position := range []int{0, 1000} { // the clef is looked at first
			if p, e := At(clef, position); p != (api.Pitch{}) || e != api.ErrKind {
				t.Errorf("At(%d, %d) = %v, %d", clef, position, p, e)
			}
		}
	}
}

// ledger draws lines from the staff to a position.
func ledger(position int) []int {
	var l []int
	for n := 1; n <= position; n++ {
		if n > 4 && n%2 == 0 {
			l = append(l, n)
		}
	}
	for n := -1; n >= position; n-- {
		if n < -4 && n%2 == 0 {
			l = append(l, n)
		}
	}
	return l
}

// P8.4
func TestLedger(t *testing.T) {
	for position, want := range map[int][]int{-17: {-6, -8, -10, -12, -14, -16}, -6: {-6}, -5: nil, 0: nil, 5: nil, 6: {6}, 7: {6}, 8: {6, 8}} {
		if l := Ledger(position); !slices.Equal(l, want) {
			t.Errorf("Ledger(%d) = %v; want %v", position, l, want)
		}
	}
	for position := -200; position <= 200; position++ {
		if l := Ledger(position); !slices.Equal(l, ledger(position)) {
			t.Errorf("Ledger(%d) = %v", position, l)
		}
	}
	if l := Ledger(-200); len(l) != 98 || l[97] != -200 {
		t.Errorf("Ledger(-200) = %v", l)
	}
	for _, position := range []int{math.MinInt, -1 << 32, -202, -201, 201, 202, 1 << 32, math.MaxInt} {
		if l := Ledger(position); len(l) != 0 {
			t.Errorf("Ledger(%d) = %v", position, l)
		}
	}
}

// signatures are the positions of seven sharps and of seven flats.
var signatures = map[int][2][]int{
	Treble:       {{4, 1, 5, 2, -1, 3, 0}, {0, 3, -1, 2, -2, 1, -3}},
	Bass:         {{2, -1, 3, 0, -3, 1, -2}, {-2, 1, -3, 0, -4, -1, -5}},
	Alto:         {{3, 0, 4, 1, -2, 2, -1}, {-1, 2, -2, 1, -3, 0, -4}},
	Tenor:        {{-2, 2, -1, 3, 0, 4, 1}, {1, 4, 0, 3, -1, 2, -2}},
	Soprano:      {{-1, 3, 0, 4, 1, -2, 2}, {2, -2, 1, -3, 0, 3, -1}},
	MezzoSoprano: {{1, -2, 2, -1, 3, 0, 4}, {-3, 0, 3, -1, 2, -2, 1}},
	Baritone:     {{0, 4, 1, -2, 2, -1, 3}, {3, -1, 2, -2, 1, -3, 0}},
	TrebleDown:   {{4, 1, 5, 2, -1, 3, 0}, {0, 3, -1, 2, -2, 1, -3}},
	BassDown:     {{2, -1, 3, 0, -3, 1, -2}, {-2, 1, -3, 0, -4, -1, -5}},
}

// P8.5
func TestSignature(t *testing.T) {
	for _, c := range clefs {
		for fifths := -7; fifths <= 7; fifths++ {
			want := signatures[c.clef][0][:max(fifths, 0)]
			if fifths < 0 {
				want = signatures[c.clef][1][:-fifths]
			}
			if l, e := Signature(c.clef, fifths); !slices.Equal(l, want) || e != api.OK {
				t.Errorf("Signature(%d, %d) = %v, %d; want %v", c.clef, fifths, l, e, want)
			}
		}
		for _, fifths := range noFifths {
			if l, e := Signature(c.clef, fifths); len(l) != 0 || e != api.ErrRange {
				t.Errorf("Signature(%d, %d) = %v, %d", c.clef, fifths, l, e)
			}
		}
	}
	for _, clef := range noClefs {
		for _, fifths := range append(noFifths, 0, 3, -3) { // the clef is looked at first
			if l, e := Signature(clef, fifths); len(l) != 0 || e != api.ErrKind {
				t.Errorf("Signature(%d, %d) = %v, %d", clef, fifths, l, e)
			}
		}
	}
}

// P8.5, P8.7: the accidentals stand at different positions of their steps.
func TestSignatureSteps(t *testing.T) {
	for _, c := range clefs {
		for fifths, steps := range map[int]string{7: "FCGDAEB", -7: "BEADGCF"} {
			l, _ := Signature(c.clef, fifths)
			seen := map[int]bool{}
			for i, position := range l {
				p, e := At(c.clef, position)
				if e != api.OK || "CDEFGAB"[p.Step] != steps[i] || seen[position] {
					t.Errorf("Signature(%d, %d) = %v: %v at %d", c.clef, fifths, l, p, position)
				}
				seen[position] = true
			}
			if len(seen) != 7 || slices.Max(l)-slices.Min(l) != 6 {
				t.Errorf("Signature(%d, %d) = %v", c.clef, fifths, l)
			}
		}
	}
}

// best is Best by the definition.
func best(l []int, pitches []api.Pitch) int {
	counts := map[int]int{}
	for _, c := range clefs {
		for _, p := range pitches {
			counts[c.clef] += len(ledger(height(c.middle, p)))
		}
	}
	return slices.MinFunc(l, func(a, b int) int { return counts[a] - counts[b] }) // the first one of several
}

// P8.6
func TestBest(t *testing.T) {
	for _, c := range []struct {
		clefs   []int
		pitches string
		want    int
	}{
		{[]int{Treble, Bass}, "C3 E3 G3", Bass},
		{[]int{Bass, Treble}, "C5 E5 G5", Treble},
		{[]int{Treble, Bass}, "C4", Treble}, // one line each: the first one
		{[]int{Bass, Treble}, "C4", Bass},
		{[]int{Treble, Alto, Bass}, "C4", Alto},
		{[]int{Treble, Bass}, "", Treble},
		{[]int{BassDown}, "G9 G9", BassDown},
		{[]int{Bass, Bass, Treble, Bass}, "A4 B4", Treble},
		{[]int{Treble, Bass}, "A2 C6 E6", Treble}, // 5 + 2 + 3 lines, not 0 + 8 + 9
		{[]int{Bass, Treble}, "C4 G3 C5", Treble},
		{[]int{Treble, Bass}, "D4 A3", Bass}, // one line below D4, not two above A3
	} {
		var l []api.Pitch
		for _, s := range strings.Fields(c.pitches) {
			l = append(l, named(s))
		}
		if n, e := Best(c.clefs, l); n != c.want || e != api.OK {
			t.Errorf("Best(%v, %s) = %d, %d; want %d", c.clefs, c.pitches, n, e, c.want)
		}
	}
	r := rand.New(rand.NewSource(1))
	every := pitches()
	for range 5000 {
		var l []int
		for range 1 + r.Intn(12) {
			l = append(l, 1+r.Intn(9))
		}
		var some []api.Pitch
		for range r.Intn(5) {
			some = append(some, every[r.Intn(len(every))])
		}
		if n, e := Best(l, some); n != best(l, some) || e != api.OK {
			t.Errorf("Best(%v, %v) = %d, %d; want %d", l, some, n, e, best(l, some))
		}
	}
}

// P8.6
func TestBestErrors(t *testing.T) {
	c4, none := named("C4"), noPitches[0]
	for _, c := range []struct {
		clefs   []int
		pitches []api.Pitch
		want    api.Errno
	}{
		{nil, nil, api.ErrShort},
		{[]int{}, []api.Pitch{c4}, api.ErrShort},
		{nil, []api.Pitch{none}, api.ErrShort},
		{[]int{0}, nil, api.ErrKind},
		{[]int{Treble, 10}, []api.Pitch{c4}, api.ErrKind},
		{[]int{Treble, Treble, -1, Bass}, []api.Pitch{none}, api.ErrKind},
		{[]int{Treble}, []api.Pitch{none}, api.ErrPitch},
		{[]int{Treble, Bass}, []api.Pitch{c4, c4, none}, api.ErrPitch},
	} {
		if n, e := Best(c.clefs, c.pitches); n != 0 || e != c.want {
			t.Errorf("Best(%v, %v) = %d, %d; want %d", c.clefs, c.pitches, n, e, c.want)
		}
	}
	for _, clef := range noClefs {
		if n, e := Best([]int{Treble, clef}, nil); n != 0 || e != api.ErrKind {
			t.Errorf("Best with %d = %d, %d", clef, n, e)
		}
	}
	for _, p := range noPitches {
		if n, e := Best([]int{Treble}, []api.Pitch{p}); n != 0 || e != api.ErrPitch {
			t.Errorf("Best of %v = %d, %d", p, n, e)
		}
	}
}

// P8.7
func TestConsequences(t *testing.T) {
	for _, c := range clefs {
		for _, p := range pitches() {
			n, _ := Position(c.clef, p)
			q := api.Pitch{Step: p.Step, Octave: p.Octave}
			if pitch.Check(q) == api.OK {
				if back, e := At(c.clef, n); back != q || e != api.OK {
					t.Errorf("At(%d, %d) = %v, %d; want %v", c.clef, n, back, e, q)
				}
			}
			p.Octave++
			if m, e := Position(c.clef, p); e == api.OK && m != n+7 {
				t.Errorf("Position(%d, %v) = %d; an octave lower it is %d", c.clef, p, m, n)
			}
		}
	}
}

// P8.7: arguments are not modified, and results are new.
func TestMemory(t *testing.T) {
	clefs, l := []int{Bass, Treble}, []api.Pitch{named("C6"), named("C2")}
	Best(clefs, l)
	if !slices.Equal(clefs, []int{Bass, Treble}) || !slices.Equal(l, []api.Pitch{named("C6"), named("C2")}) {
		t.Error("Best has changed its arguments")
	}
	for range 2 {
		lines := Ledger(8)
		positions, _ := Signature(Treble, 2)
		if !slices.Equal(lines, []int{6, 8}) || !slices.Equal(positions, []int{4, 1}) {
			t.Error(lines, positions)
		}
		lines[0], positions[0] = 99, 99
	}
}
