package spelling

import (
	"cmp"
	"math"
	"math/rand"
	"slices"
	"strings"
	"testing"

	"hemiola/api"
	"hemiola/pitch"
)

var noFifths = []int{math.MinInt, -1 << 32, -100, -9, -8, 8, 9, 100, 1 << 32, math.MaxInt}
var noNumbers = []int{math.MinInt, -1 << 32, -12, -1, 128, 129, 1 << 32, math.MaxInt}
var noPitches = []api.Pitch{{Alter: -1, Octave: -1}, {Alter: 3, Octave: 4}, {Alter: -3, Octave: 4}, {Step: 5, Octave: 9}, {Step: 7, Octave: 4}, {Step: -1, Octave: 4}, {Octave: 10}, {Step: math.MaxInt, Alter: math.MinInt, Octave: math.MaxInt}}

// named returns the pitches with names.
func named(names string) []api.Pitch {
	var l []api.Pitch
	for _, s := range strings.Fields(names) {
		p, _, e := pitch.Parse(s)
		if e != api.OK {
			panic(s)
		}
		l = append(l, p)
	}
	return l
}

func names(l []api.Pitch) string {
	var words []string
	for _, p := range l {
		s, _ := pitch.Name(p)
		words = append(words, s)
	}
	return strings.Join(words, " ")
}

// places are those of the pitches of an octave, counted along the line of fifths.
var places = func() map[api.Pitch]int {
	m := map[api.Pitch]int{}
	for alter := -2; alter <= 2; alter++ {
		for _, letter := range "FCGDAEB" {
			m[api.Pitch{Step: strings.IndexRune("CDEFGAB", letter), Alter: alter}] = len(m) - 15
		}
	}
	return m
}()

// placeOf looks a pitch up on the line of fifths.
func placeOf(p api.Pitch) int { return places[api.Pitch{Step: p.Step, Alter: p.Alter}] }

// away counts the places from a pitch to the nearest one of the scale of a key.
func away(p api.Pitch, fifths int) int {
	least := math.MaxInt
	for degree := range 7 {
		least = min(least, max(placeOf(p)-(fifths-1+degree), fifths-1+degree-placeOf(p)))
	}
	return least
}

// costOf is the cost of a sequence by the definition.
func costOf(l []api.Pitch, fifths int) int {
	cost := 0
	for i, p := range l {
		cost += 3 * away(p, fifths)
		if i > 0 {
			cost += max(placeOf(p)-placeOf(l[i-1]), placeOf(l[i-1])-placeOf(p))
		}
	}
	return cost
}

// chordCostOf is that by which the spellings of a chord are compared.
func chordCostOf(l []api.Pitch, fifths int) int {
	sum := 0
	var places []int
	for _, p := range l {
		sum += 3 * away(p, fifths)
		places = append(places, placeOf(p))
	}
	if len(l) > 0 {
		sum += 100 * (slices.Max(places) - slices.Min(places))
	}
	return sum
}

// table has the pitches with each number.
type table [128][]api.Pitch

func tableOf() table {
	var t table
	for octave := -1; octave <= 9; octave++ {
		for step := range 7 {
			for alter := -2; alter <= 2; alter++ {
				p := api.Pitch{Step: step, Alter: alter, Octave: octave}
				if n, e := pitch.Number(p); e == api.OK {
					t[n] = append(t[n], p)
				}
			}
		}
	}
	return t
}

// every returns all spellings of numbers.
func (t table) every(numbers []int) [][]api.Pitch {
	all := [][]api.Pitch{nil}
	for _, n := range numbers {
		var longer [][]api.Pitch
		for _, l := range all {
			for _, p := range t[n] {
				longer = append(longer, append(slices.Clone(l), p))
			}
		}
		all = longer
	}
	return all
}

// best returns the best one of all spellings, by a function that returns their costs.
func (t table) best(numbers []int, cost func(l []api.Pitch) int) []api.Pitch {
	var best []api.Pitch
	least := math.MaxInt
	for _, l := range t.every(numbers) {
		if c := cost(l); c < least || c == least && lower(l, best) {
			best, least = l, c
		}
	}
	return best
}

// lower compares the diatonic numbers of the first different pitches.
func lower(a, b []api.Pitch) bool {
	return slices.CompareFunc(a, b, func(p, q api.Pitch) int { return cmp.Compare(7*p.Octave+p.Step, 7*q.Octave+q.Step) }) < 0
}

// P9.1
func TestCost(t *testing.T) {
	for _, c := range []struct {
		pitches      string
		fifths, want int
	}{
		{"", 0, 0}, {"", -7, 0}, {"C4", 0, 0}, {"F4", 0, 0}, {"B4", 0, 0}, {"F#4", 0, 3}, {"Bb4", 0, 3}, {"C4 C#4 D4", 0, 18}, {"C4 Db4 D4", 0, 24}, {"C4 Db4 D4", -5, 3*2 + 5 + 7},
		{"C4 C5", 0, 0}, {"B4 F4", 0, 6}, {"Fbb4", 7, 3 * 21}, {"B##4", -7, 3 * 21}, {"Fbb4 B##4 Fbb4", 0, 3*(14+14+14) + 34 + 34}, {"C#4", 2, 0}, {"C4", 2, 3},
	} {
		if n, e := Cost(named(c.pitches), c.fifths); n != c.want || e != api.OK {
			t.Errorf("Cost(%s, %d) = %d, %d; want %d", c.pitches, c.fifths, n, e, c.want)
		}
	}
	r := rand.New(rand.NewSource(1))
	all := tableOf()
	for range 3000 {
		var l []api.Pitch
		for range r.Intn(9) {
			options := all[r.Intn(128)]
			l = append(l, options[r.Intn(len(options))])
		}
		fifths := r.Intn(15) - 7
		if n, e := Cost(l, fifths); n != costOf(l, fifths) || e != api.OK {
			t.Errorf("Cost(%s, %d) = %d, %d; want %d", names(l), fifths, n, e, costOf(l, fifths))
		}
	}
	if MaxNotes != 1024 || Outside != 3 || Distance != 1 {
		t.Error("constants")
	}
}

// P9.1
func TestCostErrors(t *testing.T) {
	c4 := named("C4")[0]
	long := slices.Repeat([]api.Pitch{c4}, 1025)
	for _, p := range noPitches {
		for _, l := range [][]api.Pitch{{p}, {c4, p}, {p, c4}, {c4, c4, p, c4}} {
			if n, e := Cost(l, 0); n != 0 || e != api.ErrPitch {
				t.Errorf("Cost(%v, 0) = %d, %d", l, n, e)
			}
		}
	}
	for _, fifths := range noFifths {
		for _, l := range [][]api.Pitch{nil, {c4}, noPitches, long} { // the key is looked at first
			if n, e := Cost(l, fifths); n != 0 || e != api.ErrRange {
				t.Errorf("Cost of %d pitches in %d = %d, %d", len(l), fifths, n, e)
			}
		}
	}
	if n, e := Cost(long[1:], 0); n != 0 || e != api.OK {
		t.Errorf("Cost of 1024 pitches = %d, %d", n, e)
	}
	if n, e := Cost(long, 0); n != 0 || e != api.ErrLimit {
		t.Errorf("Cost of 1025 pitches = %d, %d", n, e)
	}
	if n, e := Cost(append(noPitches[:1:1], long...), 0); n != 0 || e != api.ErrLimit { // before the pitches
		t.Errorf("Cost of 1026 pitches = %d, %d", n, e)
	}
}

// P9.2
func TestSpell(t *testing.T) {
	for _, c := range []struct {
		numbers []int
		fifths  int
		want    string
	}{
		{nil, 0, ""}, {[]int{60, 61, 62}, 0, "C4 C#4 D4"}, {[]int{60, 61, 62}, -5, "C4 Db4 D4"}, {[]int{61}, 0, "C#4"}, {[]int{60}, 0, "C4"}, {[]int{66}, -1, "F#4"}, {[]int{66}, -3, "Gb4"}, {[]int{70}, 0, "Bb4"}, {[]int{68}, 0, "G#4"}, // as far outside as Ab4
		{[]int{0}, 0, "C-1"}, {[]int{127}, 0, "G9"}, {[]int{0, 127}, 7, "C-1 F##9"}, {[]int{12}, 7, "B#-1"}, {[]int{11}, -7, "Cb0"}, {[]int{1}, 0, "C#-1"},
	} {
		l, e := Spell(c.numbers, c.fifths)
		if names(l) != c.want || e != api.OK {
			t.Errorf("Spell(%v, %d) = %s, %d; want %s", c.numbers, c.fifths, names(l), e, c.want)
		}
	}
}

// P9.2, P9.5: no other spelling is better.
func TestSpellBest(t *testing.T) {
	all := tableOf()
	compare := func(numbers []int, fifths int) {
		t.Helper()
		want := all.best(numbers, func(l []api.Pitch) int { return costOf(l, fifths) })
		if l, e := Spell(numbers, fifths); !slices.Equal(l, want) || e != api.OK {
			t.Errorf("Spell(%v, %d) = %s, %d; want %s", numbers, fifths, names(l), e, names(want))
		}
	}
	for fifths := -7; fifths <= 7; fifths++ {
		for a := range 128 {
			compare([]int{a}, fifths)
		}
		for a := 48; a < 72; a++ {
			for b := 48; b < 72; b++ {
				compare([]int{a, b}, fifths)
			}
		}
		for _, a := range []int{0, 1, 2, 3, 4, 125, 126, 127} {
			for _, b := range []int{0, 1, 2, 62, 126, 127} {
				compare([]int{a, b}, fifths)
				compare([]int{a, b, a}, fifths)
			}
		}
	}
	r := rand.New(rand.NewSource(2))
	for range 3000 {
		var numbers []int
		low, width := r.Intn(120), 1+r.Intn(13)
		for range r.Intn(7) {
			numbers = append(numbers, min(low+r.Intn(width), 127))
		}
		compare(numbers, r.Intn(15)-7)
	}
}

// leastCost finds the least cost of long lists from the first note to the last one.
func leastCost(all table, numbers []int, fifths int) int {
	costs := map[api.Pitch]int{}
	for i, n := range numbers {
		next := map[api.Pitch]int{}
		for _, q := range all[n] {
			next[q] = 3 * away(q, fifths)
			least := math.MaxInt
			for p, c := range costs {
				least = min(least, c+max(placeOf(p)-placeOf(q), placeOf(q)-placeOf(p)))
			}
			if i > 0 {
				next[q] += least
			}
		}
		costs = next
	}
	least := math.MaxInt
	for _, c := range costs {
		least = min(least, c)
	}
	return least
}

// P9.2, P9.5
func TestSpellLong(t *testing.T) {
	r := rand.New(rand.NewSource(3))
	all := tableOf()
	for _, length := range []int{20, 300, 1024} {
		var numbers []int
		for range length {
			numbers = append(numbers, r.Intn(128))
		}
		for _, fifths := range []int{-7, 0, 3} {
			l, e := Spell(numbers, fifths)
			if e != api.OK || len(l) != length {
				t.Fatalf("Spell of %d numbers: %d pitches, %d", length, len(l), e)
			}
			for i, p := range l {
				if n, _ := pitch.Number(p); n != numbers[i] {
					t.Errorf("%v has not the number %d", p, numbers[i])
				}
			}
			if want := leastCost(all, numbers, fifths); costOf(l, fifths) != want {
				t.Errorf("Spell of %d numbers in %d: cost %d; want %d", length, fifths, costOf(l, fifths), want)
			}
		}
	}
}

// P9.2
func TestSpellErrors(t *testing.T) {
	long := slices.Repeat([]int{60}, 1025)
	for _, n := range noNumbers {
		for _, l := range [][]int{{n}, {60, n}, {n, 60}, {60, 61, n, 61}} {
			if p, e := Spell(l, 0); len(p) != 0 || e != api.ErrRange {
				t.Errorf("Spell(%v, 0) = %v, %d", l, p, e)
			}
		}
	}
	for _, fifths := range noFifths {
		for _, l := range [][]int{nil, {60}, {-1}, long} {
			if p, e := Spell(l, fifths); len(p) != 0 || e != api.ErrRange {
				t.Errorf("Spell of %d numbers in %d = %v, %d", len(l), fifths, p, e)
			}
		}
	}
	if p, e := Spell(long, 0); len(p) != 0 || e != api.ErrLimit {
		t.Errorf("Spell of 1025 numbers = %v, %d", p, e)
	}
	if p, e := Spell(append([]int{-1}, long...), 0); len(p) != 0 || e != api.ErrLimit { // before the numbers
		t.Errorf("Spell of 1026 numbers = %v, %d", p, e)
	}
}

// P9.3
func TestChord(t *testing.T) {
	for _, c := range []struct {
		numbers []int
		fifths  int
		want    string
	}{
		{nil, 0, ""}, {[]int{61}, 0, "C#4"}, {[]int{60, 64, 67}, 0, "C4 E4 G4"}, {[]int{64, 68, 71}, 0, "E4 G#4 B4"}, {[]int{61, 65, 68}, 0, "Db4 F4 Ab4"}, {[]int{61, 65, 68}, 4, "C#4 E#4 G#4"},
		{[]int{60, 63, 66}, 0, "C4 Eb4 Gb4"}, {[]int{60, 61}, 0, "C4 Db4"}, {[]int{0, 127}, 0, "C-1 G9"}, {[]int{58, 62, 65}, 7, "A#3 C##4 E#4"},
		{[]int{60, 66}, -2, "C4 F#4"}, // Gb4 would cost the same
		{[]int{0, 1, 4, 6, 11, 13, 15, 17}, 7, "C-1 C#-1 E-1 F#-1 B-1 C#0 D#0 F0"}, // 100 * 10 + 3 * 16; with flats 100 * 8 + 3 * 83
		{[]int{0, 1, 5, 6, 11, 12}, 6, "C-1 Db-1 F-1 Gb-1 Cb0 C0"},                 // 100 * 7 + 3 * 49; with sharps 100 * 8 + 3 * 16
	} {
		l, e := Chord(c.numbers, c.fifths)
		if names(l) != c.want || e != api.OK {
			t.Errorf("Chord(%v, %d) = %s, %d; want %s", c.numbers, c.fifths, names(l), e, c.want)
		}
	}
}

// P9.3, P9.5: no other spelling is better.
func TestChordBest(t *testing.T) {
	r := rand.New(rand.NewSource(4))
	all := tableOf()
	compare := func(numbers []int, fifths int) {
		t.Helper()
		want := all.best(numbers, func(l []api.Pitch) int { return chordCostOf(l, fifths) })
		if l, e := Chord(numbers, fifths); !slices.Equal(l, want) || e != api.OK {
			t.Errorf("Chord(%v, %d) = %s, %d; want %s", numbers, fifths, names(l), e, names(want))
		}
	}
	for fifths := -7; fifths <= 7; fifths++ {
		for a := range 12 {
			for b := a + 1; b < 24; b++ {
				compare([]int{48 + a, 48 + b}, fifths)
			}
		}
		compare([]int{0, 1, 2}, fifths)
		compare([]int{124, 125, 126, 127}, fifths)
	}
	for range 1500 {
		numbers := []int{}
		low, width := r.Intn(110), 6+r.Intn(12)
		for range 1 + r.Intn(5) {
			numbers = append(numbers, low+r.Intn(width))
		}
		slices.Sort(numbers)
		compare(slices.Compact(numbers), r.Intn(15)-7)
	}
	compare([]int{60, 61, 62, 63, 64, 65, 66, 67}, 0)
}

// P9.3: the most heads.
func TestChordLimit(t *testing.T) {
	for low := range 118 {
		var numbers []int
		for n := range 10 {
			numbers = append(numbers, low+n)
		}
		l, e := Chord(numbers, low%15-7)
		if e != api.OK || len(l) != 10 {
			t.Fatalf("Chord(%v) = %v, %d", numbers, l, e)
		}
		for i, p := range l {
			if n, _ := pitch.Number(p); n != numbers[i] {
				t.Errorf("Chord(%v) = %s", numbers, names(l))
			}
		}
	}
}

// P9.3
func TestChordErrors(t *testing.T) {
	eleven := []int{60, 61, 62, 63, 64, 65, 66, 67, 68, 69, 70}
	for _, c := range []struct {
		numbers []int
		want    api.Errno
	}{
		{eleven, api.ErrLimit}, {append([]int{-1}, eleven...), api.ErrLimit}, {slices.Repeat([]int{60}, 11), api.ErrLimit},
		{[]int{60, 60}, api.ErrOrder}, {[]int{61, 60}, api.ErrOrder}, {[]int{60, 64, 67, 66}, api.ErrOrder},
		{[]int{61, 60, 128}, api.ErrRange}, {[]int{60, 60, -1}, api.ErrRange}, {[]int{-1, 60}, api.ErrRange}, {[]int{60, 128}, api.ErrRange}, {[]int{math.MinInt, math.MaxInt}, api.ErrRange},
	} {
		if l, e := Chord(c.numbers, 0); len(l) != 0 || e != c.want {
			t.Errorf("Chord(%v, 0) = %v, %d; want %d", c.numbers, l, e, c.want)
		}
	}
	for _, n := range noNumbers {
		if l, e := Chord([]int{n}, 0); len(l) != 0 || e != api.ErrRange {
			t.Errorf("Chord of %d = %v, %d", n, l, e)
		}
	}
	for _, fifths := range noFifths {
		for _, numbers := range [][]int{nil, {60}, {60, 60}, {-1}, eleven} {
			if l, e := Chord(numbers, fifths); len(l) != 0 || e != api.ErrRange {
				t.Errorf("Chord(%v, %d) = %v, %d", numbers, fifths, l, e)
			}
		}
	}
}

// P9.4
func TestScale(t *testing.T) {
	for _, c := range []struct {
		fifths, from int
		want         string
	}{
		{2, 60, "C#4 D4 E4 F#4 G4 A4 B4"}, {0, 60, "C4 D4 E4 F4 G4 A4 B4"}, {0, 0, "C-1 D-1 E-1 F-1 G-1 A-1 B-1"}, {7, 0, "C#-1 D#-1 E#-1 F#-1 G#-1 A#-1 B#-1"}, {-7, 0, "Db-1 Eb-1 Fb-1 Gb-1 Ab-1 Bb-1 Cb0"},
		{0, 116, "A8 B8 C9 D9 E9 F9 G9"}, {7, 116, "G#8 A#8 B#8 C#9 D#9 E#9 F#9"}, {-7, 116, "Ab8 Bb8 Cb9 Db9 Eb9 Fb9 Gb9"}, {-1, 71, "C5 D5 E5 F5 G5 A5 Bb5"},
	} {
		l, e := Scale(c.fifths, c.from)
		if names(l) != c.want || e != api.OK {
			t.Errorf("Scale(%d, %d) = %s, %d; want %s", c.fifths, c.from, names(l), e, c.want)
		}
	}
	all := tableOf()
	for fifths := -7; fifths <= 7; fifths++ {
		for from := 0; from <= 116; from++ {
			var want []api.Pitch
			for _, l := range all[from:] {
				for _, p := range l {
					if away(p, fifths) == 0 && len(want) < 7 {
						want = append(want, p)
					}
				}
			}
			if l, e := Scale(fifths, from); !slices.Equal(l, want) || len(l) != 7 || e != api.OK {
				t.Errorf("Scale(%d, %d) = %s, %d; want %s", fifths, from, names(l), e, names(want))
			}
		}
		for _, from := range []int{math.MinInt, -1 << 32, -1, 117, 127, 128, 1 << 32, math.MaxInt} {
			if l, e := Scale(fifths, from); len(l) != 0 || e != api.ErrRange {
				t.Errorf("Scale(%d, %d) = %v, %d", fifths, from, l, e)
			}
		}
	}
	for _, fifths := range noFifths {
		if l, e := Scale(fifths, 60); len(l) != 0 || e != api.ErrRange {
			t.Errorf("Scale(%d, 60) = %v, %d", fifths, l, e)
		}
	}
}

// P9.5: the notes of a scale, each of them alone, are spelled as in it.
func TestScaleAlone(t *testing.T) {
	for fifths := -7; fifths <= 7; fifths++ {
		for from := 0; from <= 116; from++ {
			scale, _ := Scale(fifths, from)
			for _, p := range scale {
				n, _ := pitch.Number(p)
				l, _ := Spell([]int{n}, fifths)
				chord, _ := Chord([]int{n}, fifths)
				if !slices.Equal(l, []api.Pitch{p}) || !slices.Equal(chord, l) {
					t.Errorf("%v is spelled %v and %v in %d", p, l, chord, fifths)
				}
			}
		}
	}
}

// P9.5: arguments are not modified, and results are new.
func TestMemory(t *testing.T) {
	numbers, pitches := []int{60, 61, 64}, named("C4 C#4 E4")
	for range 2 {
		n, _ := Cost(pitches, 0)
		l, _ := Spell(numbers, 0)
		chord, _ := Chord(numbers, 0)
		scale, _ := Scale(0, 60)
		if n != 6+7+3 || names(l) != "C4 C#4 E4" || names(chord) != "C4 C#4 E4" || names(scale) != "C4 D4 E4 F4 G4 A4 B4" {
			t.Error(n, names(l), names(chord), names(scale))
		}
		l[0], chord[0], scale[0] = api.Pitch{}, api.Pitch{}, api.Pitch{}
	}
	if !slices.Equal(numbers, []int{60, 61, 64}) || names(pitches) != "C4 C#4 E4" {
		t.Error(numbers, pitches)
	}
}
