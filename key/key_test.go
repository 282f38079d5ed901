package key

import (
	"math"
	"slices"
	"strings"
	"testing"

	"hemiola/api"
)

// scales are the major scales of all signatures, from seven flats to seven sharps.
func scales() [][]string {
	var l [][]string
	for _, s := range strings.Split("Cb Db Eb Fb Gb Ab Bb|Gb Ab Bb Cb Db Eb F|Db Eb F Gb Ab Bb C|Ab Bb C Db Eb F G|Eb F G Ab Bb C D|Bb C D Eb F G A|F G A Bb C D E|C D E F G A B|G A B C D E F#|D E F# G A B C#|A B C# D E F# G#|E F# G# A B C# D#|B C# D# E F# G# A#|F# G# A# B C# D# E#|C# D# E# F# G# A# B#", "|") {
		l = append(l, strings.Fields(s))
	}
	return l
}

// scale is the major scale of a signature, or the minor one, which begins with its sixth degree.
func scale(fifths int, minor bool) []string {
	l := scales()[fifths+7]
	if minor {
		l = append(slices.Clone(l[5:]), l[:5]...)
	}
	return l
}

// classOf is the step and the alteration of a name.
func classOf(s string) (step, alter int) {
	return strings.Index("CDEFGAB", s[:1]), strings.Count(s, "#") - strings.Count(s, "b")
}

// alters are the alterations of the steps under a signature.
func alters(fifths int) [7]int {
	var l [7]int
	for _, s := range scale(fifths, false) {
		step, alter := classOf(s)
		l[step] = alter
	}
	return l
}

// signature is a list of altered steps, in order.
func signature(fifths int) []int {
	order := []int{3, 0, 4, 1, 5, 2, 6}
	if fifths < 0 {
		slices.Reverse(order)
		fifths = -fifths
	}
	return order[:fifths]
}

var (
	both  = []bool{false, true}
	none  = []int{math.MinInt, math.MinInt + 1, -1 << 32, -100, -19, -12, -9, -8, 8, 9, 12, 19, 100, 1 << 32, math.MaxInt - 1, math.MaxInt} // no signatures
	parts = []int{math.MinInt, -1 << 32, -8, -7, -4, -3, -2, -1, 0, 1, 2, 3, 4, 5, 6, 7, 8, 9, 10, 11, 12, 1 << 32, math.MaxInt}
)

// P7.1
func TestCheck(t *testing.T) {
	for fifths := -7; fifths <= 7; fifths++ {
		if e := Check(fifths); e != api.OK {
			t.Errorf("Check(%d) = %d", fifths, e)
		}
	}
	for _, fifths := range none {
		if e := Check(fifths); e != api.ErrRange {
			t.Errorf("Check(%d) = %d", fifths, e)
		}
	}
	if MaxFifths != 7 {
		t.Error(MaxFifths)
	}
}

// P7.1
func TestAlter(t *testing.T) {
	for fifths := -7; fifths <= 7; fifths++ {
		want := alters(fifths)
		for _, step := range parts {
			n, e := Alter(fifths, step)
			if step < 0 || step > 6 {
				if n != 0 || e != api.ErrPitch {
					t.Errorf("Alter(%d, %d) = %d, %d", fifths, step, n, e)
				}
			} else if n != want[step] || e != api.OK {
				t.Errorf("Alter(%d, %d) = %d, %d; want %d", fifths, step, n, e, want[step])
			}
		}
	}
	for _, fifths := range none {
		for _, step := range parts { // the signature is looked at first
			if n, e := Alter(fifths, step); n != 0 || e != api.ErrRange {
				t.Errorf("Alter(%d, %d) = %d, %d", fifths, step, n, e)
			}
		}
	}
}

// P7.1
func TestSignature(t *testing.T) {
	for fifths, want := range map[int][]int{0: nil, 1: {3}, 2: {3, 0}, 7: {3, 0, 4, 1, 5, 2, 6}, -1: {6}, -2: {6, 2}, -3: {6, 2, 5}, -7: {6, 2, 5, 1, 4, 0, 3}} {
		if l, e := Signature(fifths); !slices.Equal(l, want) || e != api.OK {
			t.Errorf("Signature(%d) = %v, %d; want %v", fifths, l, e, want)
		}
	}
	for fifths := -7; fifths <= 7; fifths++ {
		l, e := Signature(fifths)
		if !slices.Equal(l, signature(fifths)) || e != api.OK {
			t.Errorf("Signature(%d) = %v, %d", fifths, l, e)
		}
		for step, alter := range alters(fifths) {
			if slices.Contains(l, step) != (alter != 0) {
				t.Errorf("Signature(%d) = %v; want step %d to be altered by %d", fifths, l, step, alter)
			}
		}
	}
	for _, fifths := range none {
		if l, e := Signature(fifths); len(l) != 0 || e != api.ErrRange {
			t.Errorf("Signature(%d) = %v, %d", fifths, l, e)
		}
	}
}

// P7.2
func TestTonic(t *testing.T) {
	for fifths := -7; fifths <= 7; fifths++ {
		for _, minor := range both {
			name := scale(fifths, minor)[0]
			wantStep, wantAlter := classOf(name)
			if step, alter, e := Tonic(fifths, minor); step != wantStep || alter != wantAlter || e != api.OK {
				t.Errorf("Tonic(%d, %v) = %d, %d, %d; want %s", fifths, minor, step, alter, e, name)
			}
		}
	}
	for _, fifths := range none {
		for _, minor := range both {
			if step, alter, e := Tonic(fifths, minor); step != 0 || alter != 0 || e != api.ErrRange {
				t.Errorf("Tonic(%d, %v) = %d, %d, %d", fifths, minor, step, alter, e)
			}
		}
	}
}

// P7.2
func TestOf(t *testing.T) {
	for _, minor := range both {
		keys := map[[2]int]int{}
		for fifths := -7; fifths <= 7; fifths++ {
			step, alter := classOf(scale(fifths, minor)[0])
			keys[[2]int{step, alter}] = fifths
		}
		for _, step := range parts {
			for _, alter := range parts {
				want, ok := keys[[2]int{step, alter}]
				wantError := api.OK
				if step < 0 || step > 6 || alter < -2 || alter > 2 {
					wantError = api.ErrPitch
				} else if !ok {
					wantError = api.ErrRange
				}
				if n, e := Of(step, alter, minor); n != want || e != wantError {
					t.Errorf("Of(%d, %d, %v) = %d, %d; want %d, %d", step, alter, minor, n, e, want, wantError)
				}
			}
		}
	}
	for _, c := range []struct {
		step, alter int
		minor       bool
		fifths      int
		e           api.Errno
	}{
		{1, 0, false, 2, api.OK}, {6, 0, true, 2, api.OK}, {0, -1, false, -7, api.OK}, {0, 1, false, 7, api.OK}, {5, 1, true, 7, api.OK}, {5, -1, true, -7, api.OK},
		{3, -1, false, 0, api.ErrRange}, {4, 1, false, 0, api.ErrRange}, {4, 1, true, 5, api.OK}, {1, -1, true, 0, api.ErrRange}, {2, 1, true, 0, api.ErrRange}, {0, 2, false, 0, api.ErrRange}, {0, -2, true, 0, api.ErrRange}, {0, 3, false, 0, api.ErrPitch}, {7, 0, true, 0, api.ErrPitch},
	} {
		if n, e := Of(c.step, c.alter, c.minor); n != c.fifths || e != c.e {
			t.Errorf("Of(%d, %d, %v) = %d, %d; want %d, %d", c.step, c.alter, c.minor, n, e, c.fifths, c.e)
		}
	}
}

// ascending is a scale from an octave on, and reports whether all octaves are permitted.
func ascending(names []string, octave int) (l []api.Pitch, ok bool) {
	for i, s := range names {
		step, alter := classOf(s)
		if i > 0 && step == 0 {
			octave++
		}
		l = append(l, api.Pitch{Step: step, Alter: alter, Octave: octave})
	}
	return l, l[0].Octave >= -1 && octave <= 9
}

// P7.3
func TestScale(t *testing.T) {
	for fifths := -7; fifths <= 7; fifths++ {
		for _, minor := range both {
			for octave := -5; octave <= 15; octave++ {
				want, ok := ascending(scale(fifths, minor), octave)
				wantError := api.OK
				if !ok {
					want, wantError = nil, api.ErrPitch
				}
				if l, e := Scale(fifths, minor, octave); !slices.Equal(l, want) || e != wantError {
					t.Errorf("Scale(%d, %v, %d) = %v, %d; want %v, %d", fifths, minor, octave, l, e, want, wantError)
				}
			}
			for _, octave := range []int{math.MinInt, math.MinInt + 1, -1 << 32, 1 << 32, math.MaxInt - 1, math.MaxInt} {
				if l, e := Scale(fifths, minor, octave); len(l) != 0 || e != api.ErrPitch {
					t.Errorf("Scale(%d, %v, %d) = %v, %d", fifths, minor, octave, l, e)
				}
			}
		}
	}
	for _, fifths := range none {
		for _, octave := range []int{4, 10, -2, math.MaxInt} { // the signature is looked at first
			if l, e := Scale(fifths, octave > 4, octave); len(l) != 0 || e != api.ErrRange {
				t.Errorf("Scale(%d, _, %d) = %v, %d", fifths, octave, l, e)
			}
		}
	}
}

// P7.3: only octaves count, so C flat in the octave -1 and B in the octave 9 are permitted, which are out of range as pitches.
func TestScaleExamples(t *testing.T) {
	for _, c := range []struct {
		fifths int
		minor  bool
		octave int
		want   []api.Pitch
		e      api.Errno
	}{
		{2, false, 4, []api.Pitch{{Step: 1, Octave: 4}, {Step: 2, Octave: 4}, {Step: 3, Alter: 1, Octave: 4}, {Step: 4, Octave: 4}, {Step: 5, Octave: 4}, {Step: 6, Octave: 4}, {Step: 0, Alter: 1, Octave: 5}}, api.OK},
		{-7, false, -1, []api.Pitch{{Step: 0, Alter: -1, Octave: -1}, {Step: 1, Alter: -1, Octave: -1}, {Step: 2, Alter: -1, Octave: -1}, {Step: 3, Alter: -1, Octave: -1}, {Step: 4, Alter: -1, Octave: -1}, {Step: 5, Alter: -1, Octave: -1}, {Step: 6, Alter: -1, Octave: -1}}, api.OK},
		{0, false, 9, []api.Pitch{{Step: 0, Octave: 9}, {Step: 1, Octave: 9}, {Step: 2, Octave: 9}, {Step: 3, Octave: 9}, {Step: 4, Octave: 9}, {Step: 5, Octave: 9}, {Step: 6, Octave: 9}}, api.OK},
		{0, true, 8, []api.Pitch{{Step: 5, Octave: 8}, {Step: 6, Octave: 8}, {Step: 0, Octave: 9}, {Step: 1, Octave: 9}, {Step: 2, Octave: 9}, {Step: 3, Octave: 9}, {Step: 4, Octave: 9}}, api.OK},
		{0, true, 9, nil, api.ErrPitch}, {1, false, 9, nil, api.ErrPitch}, {0, false, 10, nil, api.ErrPitch}, {0, false, -2, nil, api.ErrPitch}, {5, false, -2, nil, api.ErrPitch},
	} {
		if l, e := Scale(c.fifths, c.minor, c.octave); !slices.Equal(l, c.want) || e != c.e {
			t.Errorf("Scale(%d, %v, %d) = %v, %d", c.fifths, c.minor, c.octave, l, e)
		}
	}
}

// signed is a signature and its mode.
type signed struct {
	fifths int
	minor  bool
}

// names returns the names of all keys.
func names() map[string]signed {
	m := map[string]signed{}
	for i, s := range strings.Fields("Cb Gb Db Ab Eb Bb F C G D A E B F# C#") {
		m[s+" major"] = signed{i - 7, false}
	}
	for i, s := range strings.Fields("Ab Eb Bb F C G D A E B F# C# G# D# A#") {
		m[s+" minor"] = signed{i - 7, true}
	}
	return m
}

// P7.4
func TestName(t *testing.T) {
	m := names()
	if len(m) != 30 {
		t.Fatal(len(m))
	}
	for want, k := range m {
		if s, e := Name(k.fifths, k.minor); s != want || e != api.OK {
			t.Errorf("Name(%d, %v) = %q, %d; want %q", k.fifths, k.minor, s, e, want)
		}
		if fifths, minor, e := Parse(want); fifths != k.fifths || minor != k.minor || e != api.OK {
			t.Errorf("Parse(%q) = %d, %v, %d", want, fifths, minor, e)
		}
	}
	for _, fifths := range none {
		for _, minor := range both {
			if s, e := Name(fifths, minor); s != "" || e != api.ErrRange {
				t.Errorf("Name(%d, %v) = %q, %d", fifths, minor, s, e)
			}
		}
	}
}

// P7.4
func TestParseErrors(t *testing.T) {
	for _, s := range strings.Split("| |  |C|C |Cmajor|C  major| C major|C major |C majo|C majors|C Major|C MAJOR|c major|c minor|H major|B# major|E# major|Fb major|G# major|D# major|A# major|Fb minor|Cb minor|Gb minor|Db minor|E# minor|B# minor|C## major|Cbb minor|C#b major|Cb# major|#C major|b major|bb minor|C♯ major|C\tmajor|C-major|C minor major|C major minor|major|minor| major| minor|# major|C#  minor|é major|\x00|\xff major|C\x00 major|C4 major|C major\x00|"+strings.Repeat("C", 1000)+" major|C"+strings.Repeat("#", 1000)+" minor", "|") {
		if fifths, minor, e := Parse(s); fifths != 0 || minor || e != api.ErrName {
			t.Errorf("Parse(%q) = %d, %v, %d", s, fifths, minor, e)
		}
	}
}

// P7.4: all texts of a few bytes and a mode.
func TestParseAll(t *testing.T) {
	m := names()
	first := []string{""}
	for k := 0; len(first[len(first)-1]) < 4; {
		last := len(first)
		for ; k < last; k++ {
			for _, c := range "ABCDEFGHab# " {
				first = append(first, first[k]+string(c))
			}
		}
	}
	for _, s := range first {
		for _, mode := range []string{" major", " minor", "major", "minor", ""} {
			want, ok := m[s+mode]
			if fifths, minor, e := Parse(s + mode); fifths != want.fifths || minor != want.minor || ok != (e == api.OK) || !ok && e != api.ErrName {
				t.Fatalf("Parse(%q) = %d, %v, %d; want %v", s+mode, fifths, minor, e, want)
			}
		}
	}
}

// nearest is the number of fifths of all that are enharmonic to n to which n is reduced or increased.
func nearest(n int) int {
	for to := -7; to <= 7; to++ {
		if (to-n)%12 == 0 && (to == n || n > 7 && to > -5 || n < -7 && to < 5) {
			return to
		}
	}
	return math.MaxInt
}

// P7.5
func TestTranspose(t *testing.T) {
	for fifths := -7; fifths <= 7; fifths++ {
		for steps := -77; steps <= 77; steps++ {
			for semitones := -140; semitones <= 140; semitones++ {
				want := nearest(fifths + 7*semitones - 12*steps)
				if n, e := Transpose(fifths, api.Interval{Steps: steps, Semitones: semitones}); n != want || e != api.OK {
					t.Fatalf("Transpose(%d, {%d, %d}) = %d, %d; want %d", fifths, steps, semitones, n, e, want)
				}
			}
		}
	}
	for _, c := range []struct {
		fifths, steps, semitones, want int
	}{
		{5, 1, 2, 7}, {7, 1, 2, -3}, {0, 0, 0, 0}, {0, 4, 7, 1}, {0, -4, -7, -1}, {0, 3, 5, -1}, {-7, -1, -2, 3}, {-7, 3, 5, 4}, {7, 4, 7, -4}, {0, 7, 12, 0}, {-2, 1, 2, 0}, {7, -1, -2, 5}, {0, 1, 1, -5}, {0, 0, 1, 7}, {1, 0, 1, -4}, {0, 0, -1, -7}, {-1, 0, -1, 4}, {0, 1, 0, 0}, {7, 77, 140, 3}, {0, -77, 140, -4}, {0, 77, -140, 4}, {-7, -77, -140, -3},
	} {
		if n, e := Transpose(c.fifths, api.Interval{Steps: c.steps, Semitones: c.semitones}); n != c.want || e != api.OK {
			t.Errorf("Transpose(%d, {%d, %d}) = %d, %d; want %d", c.fifths, c.steps, c.semitones, n, e, c.want)
		}
	}
}

// P7.5
func TestTransposeErrors(t *testing.T) {
	wrong := []api.Interval{{Steps: 78}, {Steps: -78}, {Semitones: 141}, {Semitones: -141}, {Steps: math.MaxInt}, {Steps: math.MinInt}, {Semitones: math.MaxInt}, {Semitones: math.MinInt}, {Steps: math.MaxInt, Semitones: math.MaxInt}, {Steps: math.MinInt, Semitones: math.MinInt}, {Steps: 84, Semitones: 144}}
	for fifths := -7; fifths <= 7; fifths++ {
		for _, i := range wrong {
			if n, e := Transpose(fifths, i); n != 0 || e != api.ErrRange {
				t.Errorf("Transpose(%d, %v) = %d, %d", fifths, i, n, e)
			}
		}
	}
	for _, fifths := range none {
		for _, i := range append(wrong, api.Interval{}, api.Interval{Steps: 4, Semitones: 7}) {
			if n, e := Transpose(fifths, i); n != 0 || e != api.ErrRange {
				t.Errorf("Transpose(%d, %v) = %d, %d", fifths, i, n, e)
			}
		}
	}
}

// P7.6
func TestDiatonic(t *testing.T) {
	for fifths := -7; fifths <= 7; fifths++ {
		want := alters(fifths)
		for _, step := range parts {
			for _, alter := range parts {
				for _, octave := range []int{4, 0, -50, math.MaxInt} {
					ok := step >= 0 && step <= 6 && want[max(0, min(step, 6))] == alter
					if got := Diatonic(fifths, api.Pitch{Step: step, Alter: alter, Octave: octave}); got != ok {
						t.Errorf("Diatonic(%d, {%d, %d, %d}) = %v", fifths, step, alter, octave, got)
					}
				}
			}
		}
	}
	for _, fifths := range none {
		for step := range 7 {
			for alter := -2; alter <= 2; alter++ {
				if Diatonic(fifths, api.Pitch{Step: step, Alter: alter, Octave: 4}) {
					t.Errorf("Diatonic(%d, {%d, %d, 4})", fifths, step, alter)
				}
			}
		}
	}
}

// P7.6
func TestDegree(t *testing.T) {
	for fifths := -7; fifths <= 7; fifths++ {
		for want, s := range scale(fifths, false) {
			step, natural := classOf(s)
			for alter := -2; alter <= 2; alter++ {
				for _, octave := range []int{4, 0, -1, 10, math.MinInt, math.MaxInt} {
					p := api.Pitch{Step: step, Alter: alter, Octave: octave}
					if degree, raised, e := Degree(fifths, p); degree != want || raised != alter-natural || e != api.OK {
						t.Errorf("Degree(%d, %v) = %d, %d, %d; want %d, %d", fifths, p, degree, raised, e, want, alter-natural)
					}
				}
			}
		}
		for _, p := range []api.Pitch{{Step: -1}, {Step: 7}, {Step: math.MaxInt}, {Step: math.MinInt}, {Alter: 3}, {Alter: -3}, {Alter: math.MaxInt}, {Alter: math.MinInt}, {Step: 7, Alter: 3}} {
			if degree, raised, e := Degree(fifths, p); degree != 0 || raised != 0 || e != api.ErrPitch {
				t.Errorf("Degree(%d, %v) = %d, %d, %d", fifths, p, degree, raised, e)
			}
		}
	}
	for _, fifths := range none {
		for _, p := range []api.Pitch{{Octave: 4}, {Step: 7}, {Alter: 3}} { // the signature is looked at first
			if degree, raised, e := Degree(fifths, p); degree != 0 || raised != 0 || e != api.ErrRange {
				t.Errorf("Degree(%d, %v) = %d, %d, %d", fifths, p, degree, raised, e)
			}
		}
	}
	// In F major, B natural is the raised fourth degree; in D flat major, F double flat is the third one, lowered twice.
	if degree, raised, e := Degree(-1, api.Pitch{Step: 6, Octave: 4}); degree != 3 || raised != 1 || e != api.OK {
		t.Error(degree, raised, e)
	}
	if degree, raised, e := Degree(-5, api.Pitch{Step: 3, Alter: -2, Octave: 4}); degree != 2 || raised != -2 || e != api.OK {
		t.Error(degree, raised, e)
	}
	if degree, raised, e := Degree(7, api.Pitch{Step: 0, Alter: -2, Octave: 4}); degree != 0 || raised != -3 || e != api.OK {
		t.Error(degree, raised, e)
	}
}

// P7.7
func TestNaturals(t *testing.T) {
	for from := -7; from <= 7; from++ {
		for to := -7; to <= 7; to++ {
			var want []int
			after := alters(to)
			for _, step := range signature(from) {
				if after[step] == 0 {
					want = append(want, step)
				}
			}
			if l, e := Naturals(from, to); !slices.Equal(l, want) || e != api.OK {
				t.Errorf("Naturals(%d, %d) = %v, %d; want %v", from, to, l, e, want)
			}
		}
	}
	for _, c := range []struct {
		from, to int
		want     []int
	}{
		{3, 1, []int{0, 4}}, {-2, 2, []int{6, 2}}, {2, -2, []int{3, 0}}, {1, 3, nil}, {0, 7, nil}, {7, 0, []int{3, 0, 4, 1, 5, 2, 6}}, {-7, 0, []int{6, 2, 5, 1, 4, 0, 3}}, {7, -7, nil}, {7, -1, []int{3, 0, 4, 1, 5, 2}}, {-7, 1, []int{6, 2, 5, 1, 4, 0}}, {5, -5, []int{3, 0}}, {4, 4, nil},
	} {
		if l, e := Naturals(c.from, c.to); !slices.Equal(l, c.want) || e != api.OK {
			t.Errorf("Naturals(%d, %d) = %v, %d; want %v", c.from, c.to, l, e, c.want)
		}
	}
	for _, fifths := range none {
		for _, c := range [][2]int{{fifths, 0}, {0, fifths}, {7, fifths}, {fifths, -7}, {fifths, fifths}} {
			if l, e := Naturals(c[0], c[1]); len(l) != 0 || e != api.ErrRange {
				t.Errorf("Naturals(%d, %d) = %v, %d", c[0], c[1], l, e)
			}
		}
	}
}

// height is the semitone number of a pitch.
func height(p api.Pitch) int {
	return 12*(p.Octave+1) + []int{0, 2, 4, 5, 7, 9, 11}[p.Step] + p.Alter
}

// P7.8
func TestIntervalsOfScales(t *testing.T) {
	for fifths := -7; fifths <= 7; fifths++ {
		for minor, want := range map[bool][]int{false: {2, 2, 1, 2, 2, 2}, true: {2, 1, 2, 2, 1, 2}} {
			for octave := -1; octave <= 8; octave++ {
				l, _ := Scale(fifths, minor, octave)
				for i := range 6 {
					if n := height(l[i+1]) - height(l[i]); n != want[i] {
						t.Errorf("Scale(%d, %v, %d): %d semitones from %v on", fifths, minor, octave, n, l[i])
					}
				}
			}
		}
	}
}

// P7.8
func TestTransposeShiftsScales(t *testing.T) {
	for fifths := -7; fifths <= 7; fifths++ {
		for steps := -15; steps <= 15; steps++ {
			for semitones := -30; semitones <= 30; semitones++ {
				i := api.Interval{Steps: steps, Semitones: semitones}
				to, _ := Transpose(fifths, i)
				for _, minor := range both {
					a, _ := Scale(fifths, minor, 4)
					b, _ := Scale(to, minor, 4)
					for k := range 7 {
						if (height(b[k])-height(a[k])-semitones)%12 != 0 {
							t.Fatalf("Transpose(%d, %v) = %d: from %v to %v", fifths, i, to, a[k], b[k])
						}
					}
				}
				back, _ := Transpose(to, api.Interval{Steps: -steps, Semitones: -semitones})
				if to == fifths+7*semitones-12*steps && back != fifths {
					t.Fatalf("Transpose(%d, %v) = %d, and back it is %d", fifths, i, to, back)
				}
			}
		}
	}
}

// P7.8
func TestNewMemory(t *testing.T) {
	for _, f := range []func() []int{
		func() []int { l, _ := Signature(3); return l },
		func() []int { l, _ := Naturals(7, 3); return l },
		func() []int { l, _ := Naturals(-7, 0); return l },
	} {
		a, b := f(), f()
		want := slices.Clone(b)
		a[0], a[1] = 50, 60
		if c := f(); !slices.Equal(b, want) || !slices.Equal(c, want) {
			t.Error("the result is not new memory")
		}
	}
	a, _ := Scale(3, true, 4)
	b, _ := Scale(3, true, 4)
	want := slices.Clone(b)
	a[0], a[6] = api.Pitch{}, api.Pitch{}
	if c, _ := Scale(3, true, 4); !slices.Equal(b, want) || !slices.Equal(c, want) {
		t.Error("the result is not new memory")
	}
}
