package interval

import (
	"math"
	"slices"
	"strconv"
	"strings"
	"testing"

	"hemiola/api"
	"hemiola/pitch"
)

func of(steps, semitones int) api.Interval {
	return api.Interval{Steps: steps, Semitones: semitones}
}

// bounds are numbers within and beyond the limits of intervals.
var bounds = []int{math.MinInt, math.MinInt + 1, -1 << 32, -281, -280, -155, -154, -141, -140, -139, -78, -77, -76, -12, -7, -1, 0, 1, 7, 12, 76, 77, 78, 139, 140, 141, 154, 155, 280, 281, 1 << 32, math.MaxInt - 1, math.MaxInt}

// known is an interval with all that the chapter says of it, found by counting up and down instead of calculating.
type known struct {
	i              api.Interval
	quality, times int
	text, name     string
}

// ordinals are the English words of 0 to 77 steps.
func ordinals() []string {
	return strings.Fields("unison second third fourth fifth sixth seventh octave 9th 10th 11th 12th 13th 14th 15th 16th 17th 18th 19th 20th 21st 22nd 23rd 24th 25th 26th 27th 28th 29th 30th 31st 32nd 33rd 34th 35th 36th 37th 38th 39th 40th 41st 42nd 43rd 44th 45th 46th 47th 48th 49th 50th 51st 52nd 53rd 54th 55th 56th 57th 58th 59th 60th 61st 62nd 63rd 64th 65th 66th 67th 68th 69th 70th 71st 72nd 73rd 74th 75th 76th 77th 78th")
}

// all returns the valid intervals.
func all() []known {
	var l []known
	semitones := 0
	for steps, word := range ordinals() {
		number := strconv.Itoa(steps + 1)
		perfect := strings.Contains("unison fourth fifth octave", word)
		if steps > 7 { // as an octave less
			perfect = strings.Contains("1 4 5 8", strconv.Itoa(steps%7+1))
		}
		add := func(semitones, quality, times int, letters, english string) {
			i := of(steps, semitones)
			if Check(i) != api.OK || steps == 0 && semitones < 0 {
				return
			}
			l = append(l, known{i, quality, times, letters + number, english + " " + word})
			if steps > 0 || semitones > 0 {
				l = append(l, known{of(-steps, -semitones), quality, times, "-" + letters + number, "descending " + english + " " + word})
			}
		}
		below := semitones
		if perfect {
			add(semitones, Perfect, 0, "P", "perfect")
		} else {
			below--
			add(semitones, Major, 0, "M", "major")
			add(below, Minor, 0, "m", "minor")
		}
		for n, often := 1, ""; n <= 300; n++ {
			switch {
			case n == 2:
				often = "doubly "
			case n == 3:
				often = "triply "
			case n > 3:
				often = strconv.Itoa(n) + " times "
			}
			add(semitones+n, Augmented, n, strings.Repeat("A", n), often+"augmented")
			add(below-n, Diminished, n, strings.Repeat("d", n), often+"diminished")
		}
		semitones += 2
		if steps%7 == 2 || steps%7 == 6 { // E to F and B to C
			semitones--
		}
	}
	return l
}

// wrong are intervals that are not valid.
func wrong() []api.Interval {
	var l []api.Interval
	for _, steps := range bounds {
		for _, semitones := range bounds {
			if steps < -77 || steps > 77 || semitones < -140 || semitones > 140 {
				l = append(l, of(steps, semitones))
			}
		}
	}
	return l
}

// sounding is a pitch with its staff position and its number, by the definition.
type sounding struct {
	p                api.Pitch
	position, number int
}

// pitches returns the valid pitches in the order of staff positions.
func pitches() []sounding {
	var l []sounding
	for octave := -1; octave <= 9; octave++ {
		for step, semitones := range []int{0, 2, 4, 5, 7, 9, 11} {
			for alter := -2; alter <= 2; alter++ {
				s := sounding{api.Pitch{Step: step, Alter: alter, Octave: octave}, 7*octave + step, 12*(octave+1) + semitones + alter}
				if s.number >= 0 && s.number <= 127 {
					l = append(l, s)
				}
			}
		}
	}
	return l
}

// noPitches are pitches that are not valid.
var noPitches = []api.Pitch{{Alter: -1, Octave: -1}, {Alter: 3, Octave: 4}, {Alter: -3, Octave: 4}, {Step: 4, Alter: 1, Octave: 9}, {Step: 6, Octave: 9}, {Step: 7, Octave: 4}, {Step: -1, Octave: 4}, {Octave: -2}, {Octave: 10}, {Step: math.MaxInt, Alter: math.MaxInt, Octave: math.MaxInt}, {Step: math.MinInt, Alter: math.MinInt, Octave: math.MinInt}, {Octave: math.MaxInt}, {Alter: math.MinInt, Octave: 4}}

// named is the pitch with a name.
func named(t *testing.T, s string) api.Pitch {
	t.Helper()
	p, _, e := pitch.Parse(s)
	if e != api.OK {
		t.Fatalf("%q is no pitch", s)
	}
	return p
}

// P6.1
func TestCheck(t *testing.T) {
	count := 0
	for steps := -100; steps <= 100; steps++ {
		for semitones := -200; semitones <= 200; semitones++ {
			e := Check(of(steps, semitones))
			valid := max(steps, -steps) <= 77 && max(semitones, -semitones) <= 140
			if valid != (e == api.OK) || !valid && e != api.ErrRange {
				t.Errorf("Check of {%d, %d} = %d", steps, semitones, e)
			}
			if e == api.OK {
				count++
			}
		}
	}
	if count != 155*281 {
		t.Error(count)
	}
	for _, i := range wrong() {
		if e := Check(i); e != api.ErrRange {
			t.Errorf("Check(%v) = %d", i, e)
		}
	}
	if MaxSteps != 77 || MaxSemitones != 140 || Diminished != -2 || Minor != -1 || Perfect != 0 || Major != 1 || Augmented != 2 {
		t.Error("constants")
	}
}

// P6.1
func TestAdd(t *testing.T) {
	valid := func(i api.Interval) bool {
		return i.Steps >= -77 && i.Steps <= 77 && i.Semitones >= -140 && i.Semitones <= 140
	}
	compare := func(what string, a, b, got, want api.Interval, e api.Errno) {
		t.Helper()
		if !valid(a) || !valid(b) || !valid(want) {
			if got != (api.Interval{}) || e != api.ErrRange {
				t.Errorf("%v %s %v = %v, %d; want ErrRange", a, what, b, got, e)
			}
		} else if got != want || e != api.OK {
			t.Errorf("%v %s %v = %v, %d; want %v", a, what, b, got, e, want)
		}
	}
	var l []api.Interval
	for k, steps := range bounds {
		for _, semitones := range []int{bounds[k], bounds[len(bounds)-1-k], bounds[(k+5)%len(bounds)], 0, 3, -140, 140} {
			l = append(l, of(steps, semitones))
		}
	}
	for _, a := range l {
		for _, b := range l {
			sum, e := Add(a, b)
			compare("plus", a, b, sum, of(a.Steps+b.Steps, a.Semitones+b.Semitones), e)
			difference, e := Sub(a, b)
			compare("minus", a, b, difference, of(a.Steps-b.Steps, a.Semitones-b.Semitones), e)
		}
		negated, e := Negate(a)
		compare("negated", a, a, negated, of(-a.Steps, -a.Semitones), e)
	}
	// An argument that is not valid is an error even if the result would be valid.
	for _, c := range [][2]api.Interval{{of(78, 0), of(-1, 0)}, {of(-1, 0), of(78, 0)}, {of(0, 141), of(0, -1)}, {of(math.MaxInt, 0), of(math.MinInt, 0)}, {of(math.MaxInt, 3), of(math.MaxInt, 3)}} {
		if i, e := Add(c[0], c[1]); i != (api.Interval{}) || e != api.ErrRange {
			t.Errorf("Add(%v, %v) = %v, %d", c[0], c[1], i, e)
		}
		if i, e := Sub(c[0], of(-c[1].Steps, -c[1].Semitones)); i != (api.Interval{}) || e != api.ErrRange {
			t.Errorf("Sub of %v = %v, %d", c, i, e)
		}
	}
}

// P6.2
func TestBetween(t *testing.T) {
	l := pitches()
	for _, a := range l {
		for _, b := range l {
			if i, e := Between(a.p, b.p); i != of(b.position-a.position, b.number-a.number) || e != api.OK {
				t.Fatalf("Between(%v, %v) = %v, %d", a.p, b.p, i, e)
			}
		}
		for _, b := range noPitches {
			for _, c := range [][2]api.Pitch{{a.p, b}, {b, a.p}, {b, b}} {
				if i, e := Between(c[0], c[1]); i != (api.Interval{}) || e != api.ErrPitch {
					t.Fatalf("Between(%v, %v) = %v, %d", c[0], c[1], i, e)
				}
			}
		}
	}
	for _, c := range []struct {
		from, to string
		i        api.Interval
	}{
		{"C4", "Eb4", of(2, 3)}, {"Eb4", "C4", of(-2, -3)}, {"C4", "C4", of(0, 0)}, {"C4", "B#3", of(-1, 0)}, {"B#3", "C4", of(1, 0)}, {"C4", "Cb4", of(0, -1)}, {"B##3", "Cbb4", of(1, -3)}, {"C-1", "Abb9", of(75, 127)}, {"Abb9", "C-1", of(-75, -127)},
	} {
		if i, e := Between(named(t, c.from), named(t, c.to)); i != c.i || e != api.OK {
			t.Errorf("Between(%s, %s) = %v, %d; want %v", c.from, c.to, i, e, c.i)
		}
	}
}

// target is what Exact and Transpose must find for a pitch and a valid interval, by looking at all pitches.
func target(l []sounding, from sounding, i api.Interval) (exact, nearest api.Pitch, isExact, isNearest bool) {
	least := math.MaxInt
	for _, s := range l { // the lowest position first
		if s.number != from.number+i.Semitones {
			continue
		}
		away := s.position - from.position - i.Steps
		if away == 0 {
			exact, isExact = s.p, true
		}
		if away = max(away, -away); away < least {
			least, nearest, isNearest = away, s.p, true
		}
	}
	return exact, nearest, isExact, isNearest
}

// P6.2, P6.3: from all pitches, by intervals around the major and perfect ones, and by some others.
func TestExactAndTranspose(t *testing.T) {
	l := pitches()
	var by []api.Interval
	for steps := -77; steps <= 77; steps++ {
		near := 12 * steps / 7
		for d := -6; d <= 6; d += 1 + (steps+77)%2 {
			by = append(by, of(steps, max(-140, min(near+d, 140))))
		}
		by = append(by, of(steps, 12*(steps%7)), of(steps, -steps))
	}
	by = append(by, of(77, -140), of(-77, 140), of(0, 140), of(0, -140), of(77, 0), of(-77, 0), of(77, 127), of(-77, -127))
	byNumber := map[int][]sounding{}
	for _, s := range l {
		byNumber[s.number] = append(byNumber[s.number], s)
	}
	for _, from := range l {
		for _, i := range by {
			exact, nearest, isExact, isNearest := target(byNumber[from.number+i.Semitones], from, i)
			compare(t, "Exact", Exact, from.p, i, exact, isExact)
			compare(t, "Transpose", Transpose, from.p, i, nearest, isNearest)
		}
	}
}

func compare(t *testing.T, name string, f func(api.Pitch, api.Interval) (api.Pitch, api.Errno), p api.Pitch, i api.Interval, want api.Pitch, exists bool) {
	t.Helper()
	q, e := f(p, i)
	if exists && (q != want || e != api.OK) || !exists && (q != api.Pitch{} || e != api.ErrPitch) {
		t.Fatalf("%s(%v, %v) = %v, %d; want %v, %v", name, p, i, q, e, want, exists)
	}
}

// P6.2, P6.3
func TestExactAndTransposeExamples(t *testing.T) {
	for _, c := range []struct {
		from               string
		i                  api.Interval
		exact, transposeTo string // "" if there is none
	}{
		{"C4", of(2, 3), "Eb4", "Eb4"}, {"Eb4", of(-2, -3), "C4", "C4"}, {"C4", of(0, 0), "C4", "C4"}, {"Bb3", of(1, 2), "C4", "C4"}, {"F#4", of(-3, -5), "C#4", "C#4"},
		{"F##4", of(0, 1), "", "G#4"}, {"Abb4", of(0, -1), "", "Gb4"}, {"C4", of(0, 6), "", "E##4"}, {"C4", of(77, 6), "", "Gb4"}, {"C4", of(-77, 6), "", "E##4"}, {"C4", of(5, 8), "Ab4", "Ab4"}, {"C4", of(6, 8), "", "Ab4"}, {"C4", of(3, 8), "", "G#4"}, {"C4", of(-1, 0), "B#3", "B#3"}, {"C4", of(2, 0), "", "Dbb4"}, {"C4", of(-2, 0), "", "B#3"},
		{"C-1", of(0, -1), "", ""}, {"C-1", of(-1, 0), "", "C-1"}, {"C-1", of(1, 0), "Dbb-1", "Dbb-1"}, {"G9", of(0, 1), "", ""}, {"G9", of(2, 0), "", "Abb9"}, {"G9", of(-2, 0), "", "F##9"}, {"C-1", of(68, 127), "", "F##9"}, {"C-1", of(75, 127), "Abb9", "Abb9"}, {"C-1", of(77, 127), "", "Abb9"}, {"C-1", of(77, 128), "", ""}, {"C-1", of(77, 140), "", ""}, {"Abb9", of(-75, -127), "C-1", "C-1"}, {"Abb9", of(-77, -128), "", ""},
	} {
		p := named(t, c.from)
		for _, d := range []struct {
			name, want string
			f          func(api.Pitch, api.Interval) (api.Pitch, api.Errno)
		}{{"Exact", c.exact, Exact}, {"Transpose", c.transposeTo, Transpose}} {
			q, e := d.f(p, c.i)
			s, _ := pitch.Name(q)
			if d.want == "" && (q != api.Pitch{} || e != api.ErrPitch) || d.want != "" && (s != d.want || e != api.OK) {
				t.Errorf("%s(%s, %v) = %v, %d; want %q", d.name, c.from, c.i, q, e, d.want)
			}
		}
	}
}

// P6.2, P6.3: the pitch is looked at before the interval, and the interval before the result.
func TestExactAndTransposeErrors(t *testing.T) {
	for _, f := range []func(api.Pitch, api.Interval) (api.Pitch, api.Errno){Exact, Transpose} {
		for _, p := range noPitches {
			for _, i := range append(wrong(), of(0, 0), of(0, 12)) {
				if q, e := f(p, i); q != (api.Pitch{}) || e != api.ErrPitch {
					t.Fatalf("%v by %v = %v, %d", p, i, q, e)
				}
			}
		}
		for _, p := range []string{"C4", "C-1", "Abb9"} {
			for _, i := range wrong() {
				if q, e := f(named(t, p), i); q != (api.Pitch{}) || e != api.ErrRange {
					t.Fatalf("%s by %v = %v, %d", p, i, q, e)
				}
			}
		}
	}
}

// P6.4
func TestEnharmonics(t *testing.T) {
	l := pitches()
	for _, a := range l {
		var want []api.Pitch
		for _, b := range l { // by staff positions
			if b.number == a.number {
				want = append(want, b.p)
			}
		}
		if got, e := Enharmonics(a.p); !slices.Equal(got, want) || e != api.OK {
			t.Errorf("Enharmonics(%v) = %v, %d; want %v", a.p, got, e, want)
		}
	}
	for name, want := range map[string]string{"C#4": "B##3 C#4 Db4", "B##3": "B##3 C#4 Db4", "Ab4": "G#4 Ab4", "C-1": "C-1 Dbb-1", "G9": "F##9 G9 Abb9"} {
		var names []string
		l, _ := Enharmonics(named(t, name))
		for _, p := range l {
			s, _ := pitch.Name(p)
			names = append(names, s)
		}
		if got := strings.Join(names, " "); got != want {
			t.Errorf("Enharmonics of %s are %s; want %s", name, got, want)
		}
	}
	for _, p := range noPitches {
		if l, e := Enharmonics(p); len(l) != 0 || e != api.ErrPitch {
			t.Errorf("Enharmonics(%v) = %v, %d", p, l, e)
		}
	}
}

// P6.5, P6.6, P6.8
func TestQualityAndNames(t *testing.T) {
	l := all()
	if len(l) != 155*281 {
		t.Fatal(len(l))
	}
	longest := 0
	for _, k := range l {
		if quality, times, e := Quality(k.i); quality != k.quality || times != k.times || e != api.OK {
			t.Fatalf("Quality(%v) = %d, %d, %d; want %d, %d", k.i, quality, times, e, k.quality, k.times)
		}
		if s, e := Text(k.i); s != k.text || e != api.OK {
			t.Fatalf("Text(%v) = %q, %d; want %q", k.i, s, e, k.text)
		}
		if s, e := Name(k.i); s != k.name || e != api.OK {
			t.Fatalf("Name(%v) = %q, %d; want %q", k.i, s, e, k.name)
		}
		if i, e := Parse(k.text); i != k.i || e != api.OK {
			t.Fatalf("Parse(%q) = %v, %d; want %v", k.text, i, e, k.i)
		}
		longest = max(longest, len(k.text))
	}
	if longest > 300 {
		t.Error(longest)
	}
}

// P6.5, P6.6
func TestNameExamples(t *testing.T) {
	for _, c := range []struct {
		i              api.Interval
		quality, times int
		text, name     string
	}{
		{of(0, 0), Perfect, 0, "P1", "perfect unison"}, {of(2, 3), Minor, 0, "m3", "minor third"}, {of(-2, -3), Minor, 0, "-m3", "descending minor third"}, {of(3, 6), Augmented, 1, "A4", "augmented fourth"}, {of(4, 6), Diminished, 1, "d5", "diminished fifth"}, {of(8, 15), Augmented, 1, "A9", "augmented 9th"}, {of(3, 7), Augmented, 2, "AA4", "doubly augmented fourth"}, {of(7, 12), Perfect, 0, "P8", "perfect octave"}, {of(-7, -12), Perfect, 0, "-P8", "descending perfect octave"}, {of(7, 11), Diminished, 1, "d8", "diminished octave"},
		{of(0, 1), Augmented, 1, "A1", "augmented unison"}, {of(0, -1), Augmented, 1, "-A1", "descending augmented unison"}, {of(0, -3), Augmented, 3, "-AAA1", "descending triply augmented unison"}, {of(1, 0), Diminished, 1, "d2", "diminished second"}, {of(-1, 0), Diminished, 1, "-d2", "descending diminished second"}, {of(1, -1), Diminished, 2, "dd2", "doubly diminished second"}, {of(-1, 2), Diminished, 3, "-ddd2", "descending triply diminished second"}, {of(1, -3), Diminished, 4, "dddd2", "4 times diminished second"}, {of(5, 9), Major, 0, "M6", "major sixth"}, {of(6, 10), Minor, 0, "m7", "minor seventh"}, {of(6, 12), Augmented, 1, "A7", "augmented seventh"}, {of(6, 9), Diminished, 1, "d7", "diminished seventh"},
		{of(10, 17), Perfect, 0, "P11", "perfect 11th"}, {of(11, 19), Perfect, 0, "P12", "perfect 12th"}, {of(12, 21), Major, 0, "M13", "major 13th"}, {of(20, 35), Major, 0, "M21", "major 21st"}, {of(21, 36), Perfect, 0, "P22", "perfect 22nd"}, {of(-22, -38), Major, 0, "-M23", "descending major 23rd"}, {of(77, 132), Perfect, 0, "P78", "perfect 78th"}, {of(77, 140), Augmented, 8, "AAAAAAAA78", "8 times augmented 78th"}, {of(0, 140), Augmented, 140, strings.Repeat("A", 140) + "1", "140 times augmented unison"}, {of(77, -140), Diminished, 272, strings.Repeat("d", 272) + "78", "272 times diminished 78th"}, {of(-77, 140), Diminished, 272, "-" + strings.Repeat("d", 272) + "78", "descending 272 times diminished 78th"},
	} {
		quality, times, e := Quality(c.i)
		text, f := Text(c.i)
		name, g := Name(c.i)
		if quality != c.quality || times != c.times || text != c.text || name != c.name || e != api.OK || f != api.OK || g != api.OK {
			t.Errorf("%v: %d, %d, %q, %q", c.i, quality, times, text, name)
		}
		if i, e := Parse(c.text); i != c.i || e != api.OK {
			t.Errorf("Parse(%q) = %v, %d", c.text, i, e)
		}
	}
}

// P6.5, P6.6, P6.7 and the contract: with ErrRange other results are zero values.
func TestWrong(t *testing.T) {
	for _, i := range wrong() {
		if quality, times, e := Quality(i); quality != 0 || times != 0 || e != api.ErrRange {
			t.Errorf("Quality(%v) = %d, %d, %d", i, quality, times, e)
		}
		if simple, octaves, e := Simple(i); simple != (api.Interval{}) || octaves != 0 || e != api.ErrRange {
			t.Errorf("Simple(%v) = %v, %d, %d", i, simple, octaves, e)
		}
		if inverse, e := Invert(i); inverse != (api.Interval{}) || e != api.ErrRange {
			t.Errorf("Invert(%v) = %v, %d", i, inverse, e)
		}
		for _, f := range []func(api.Interval) (string, api.Errno){Text, Name} {
			if s, e := f(i); s != "" || e != api.ErrRange {
				t.Errorf("%v: %q, %d", i, s, e)
			}
		}
		if n, e := Fifths(i); n != 0 || e != api.ErrRange {
			t.Errorf("Fifths(%v) = %d, %d", i, n, e)
		}
	}
}

// P6.5
func TestSimple(t *testing.T) {
	for _, k := range all() {
		simple, octaves, e := Simple(k.i)
		want, n, sign := k.i, 0, 1
		if strings.HasPrefix(k.text, "-") {
			want, sign = of(-want.Steps, -want.Semitones), -1
		}
		for want.Steps > 6 {
			want, n = of(want.Steps-7, want.Semitones-12), n+1
		}
		want, n = of(sign*want.Steps, sign*want.Semitones), sign*n
		if simple != want || octaves != n || e != api.OK {
			t.Fatalf("Simple(%v) = %v, %d, %d; want %v, %d", k.i, simple, octaves, e, want, n)
		}
		if of(simple.Steps+7*octaves, simple.Semitones+12*octaves) != k.i {
			t.Fatalf("Simple(%v) = %v, %d", k.i, simple, octaves)
		}
	}
	for _, c := range []struct {
		i, simple api.Interval
		octaves   int
	}{
		{of(0, 0), of(0, 0), 0}, {of(2, 3), of(2, 3), 0}, {of(7, 12), of(0, 0), 1}, {of(7, 11), of(0, -1), 1}, {of(-7, -11), of(0, 1), -1}, {of(9, 15), of(2, 3), 1}, {of(-9, -15), of(-2, -3), -1}, {of(0, -1), of(0, -1), 0}, {of(0, 14), of(0, 14), 0}, {of(77, 132), of(0, 0), 11}, {of(-6, -11), of(-6, -11), 0}, {of(-14, -24), of(0, 0), -2}, {of(77, -140), of(0, -272), 11},
	} {
		if simple, octaves, e := Simple(c.i); simple != c.simple || octaves != c.octaves || e != api.OK {
			t.Errorf("Simple(%v) = %v, %d, %d; want %v, %d", c.i, simple, octaves, e, c.simple, c.octaves)
		}
	}
}

// P6.5, P6.8
func TestInvert(t *testing.T) {
	for _, k := range all() {
		inverse, e := Invert(k.i)
		if k.i.Steps < 0 || k.i.Steps > 7 || k.i.Semitones < -128 {
			if inverse != (api.Interval{}) || e != api.ErrRange {
				t.Fatalf("Invert(%v) = %v, %d", k.i, inverse, e)
			}
			continue
		}
		if inverse != of(7-k.i.Steps, 12-k.i.Semitones) || e != api.OK {
			t.Fatalf("Invert(%v) = %v, %d", k.i, inverse, e)
		}
		if back, e := Invert(inverse); back != k.i || e != api.OK {
			t.Fatalf("Invert(%v) = %v, %d; want %v", inverse, back, e, k.i)
		}
	}
	for from, to := range map[string]string{"P1": "P8", "m2": "M7", "M2": "m7", "m3": "M6", "M3": "m6", "P4": "P5", "A4": "d5", "AA4": "dd5", "d8": "A1", "-A1": "A8", "A8": "-A1"} {
		i, _ := Parse(from)
		inverse, _ := Invert(i)
		if s, _ := Text(inverse); s != to {
			t.Errorf("the inverse of %s is %s; want %s", from, s, to)
		}
	}
	if i, e := Invert(of(0, -128)); i != of(7, 140) || e != api.OK {
		t.Error(i, e)
	}
	if i, e := Invert(of(0, -129)); i != (api.Interval{}) || e != api.ErrRange {
		t.Error(i, e)
	}
}

// P6.6
func TestParseErrors(t *testing.T) {
	for _, s := range strings.Split("-|--|P|1|-1|P0|P-1|P01|P+1|P1 | P1|P 1|p1|M1|m1|M4|m5|P2|P3|P7|M8|P9|d1|dd1|-d1|-P1|--P1|+P1|P79|M79|d79|A79|P100|PP1|MM2|mm2|Ad4|dA4|dm2|mA2|A4A|A4.0|A４|Aa4|aA4|A|d|A-4|A--4|P1P1|P1\x00|\x00|\xff|é3|P18446744073709551617|P9223372036854775808|P1_0|P0x1|M-2|-M-2|m2-|AAAAAAAAA78|A0", "|") {
		if i, e := Parse(s); i != (api.Interval{}) || e != api.ErrSyntax {
			t.Errorf("Parse(%q) = %v, %d", s, i, e)
		}
	}
	a, d := strings.Repeat("A", 140), strings.Repeat("d", 272)
	for _, c := range []struct {
		s string
		i api.Interval
		e api.Errno
	}{
		{"", of(0, 0), api.ErrShort},
		{a + "1", of(0, 140), api.OK}, {a + "A1", of(0, 0), api.ErrSyntax}, {"-" + a + "1", of(0, -140), api.OK}, {"-" + a + "A1", of(0, 0), api.ErrSyntax}, {d + "78", of(77, -140), api.OK}, {d + "d78", of(0, 0), api.ErrSyntax}, {"-" + d + "78", of(-77, 140), api.OK}, {"-" + d + "d78", of(0, 0), api.ErrSyntax}, {"AAAAAAAA78", of(77, 140), api.OK},
		{strings.Repeat("A", 299) + "1", of(0, 0), api.ErrSyntax}, {strings.Repeat("A", 300) + "1", of(0, 0), api.ErrLong}, {strings.Repeat("x", 300), of(0, 0), api.ErrSyntax}, {strings.Repeat("x", 301), of(0, 0), api.ErrLong}, {"P" + strings.Repeat("0", 298) + "1", of(0, 0), api.ErrSyntax}, {"P1" + strings.Repeat(" ", 299), of(0, 0), api.ErrLong}, {strings.Repeat("-", 1000), of(0, 0), api.ErrLong},
	} {
		if i, e := Parse(c.s); i != c.i || e != c.e {
			t.Errorf("Parse(%q) = %v, %d; want %v, %d", c.s, i, e, c.i, c.e)
		}
	}
}

// P6.6, P6.8: every short text is the name of an interval or an error.
func TestParseAll(t *testing.T) {
	names := map[string]api.Interval{}
	for _, k := range all() {
		names[k.text] = k.i
	}
	texts := []string{""}
	for first := 0; len(texts[len(texts)-1]) < 5; {
		last := len(texts)
		for ; first < last; first++ {
			for _, c := range "-AdPMm0178x" {
				texts = append(texts, texts[first]+string(c))
			}
		}
	}
	for _, s := range texts[1:] {
		want, ok := names[s]
		if i, e := Parse(s); i != want || ok != (e == api.OK) || !ok && e != api.ErrSyntax {
			t.Fatalf("Parse(%q) = %v, %d; want %v", s, i, e, want)
		}
	}
}

// P6.7, P6.8
func TestFifths(t *testing.T) {
	for s, want := range map[string]int{"P1": 0, "P8": 0, "-P8": 0, "P15": 0, "P5": 1, "-P5": -1, "P4": -1, "-P4": 1, "M2": 2, "m2": -5, "M3": 4, "m3": -3, "-m3": 3, "M6": 3, "m7": -2, "M7": 5, "A4": 6, "d5": -6, "A1": 7, "-A1": -7, "d2": -12, "M9": 2} {
		i, _ := Parse(s)
		if n, e := Fifths(i); n != want || e != api.OK {
			t.Errorf("Fifths of %s = %d, %d; want %d", s, n, e, want)
		}
	}
	if n, e := Fifths(of(-77, 140)); n != 1904 || e != api.OK {
		t.Error(n, e)
	}
	l := pitches()
	for _, a := range l {
		for _, b := range l {
			from, _ := pitch.Fifths(a.p)
			to, _ := pitch.Fifths(b.p)
			i, _ := Between(a.p, b.p)
			if n, e := Fifths(i); n != to-from || e != api.OK {
				t.Fatalf("from %v to %v: %d, %d", a.p, b.p, n, e)
			}
		}
	}
}

// some returns every n-th valid interval.
func some(n int) []api.Interval {
	var l []api.Interval
	for k, x := range all() {
		if k%n == 0 {
			l = append(l, x.i)
		}
	}
	return l
}

// P6.8: a group, and the sums of Fifths.
func TestGroup(t *testing.T) {
	l := some(131)
	for _, a := range l {
		if i, e := Add(a, api.Interval{}); i != a || e != api.OK {
			t.Errorf("%v plus nothing is %v, %d", a, i, e)
		}
		negated, _ := Negate(a)
		if i, e := Add(a, negated); i != (api.Interval{}) || e != api.OK {
			t.Errorf("%v plus %v is %v, %d", a, negated, i, e)
		}
		m, _ := Fifths(a)
		for _, b := range l {
			sum, e := Add(a, b)
			if other, f := Add(b, a); other != sum || f != e {
				t.Fatalf("the sums of %v and %v: %v, %v", a, b, sum, other)
			}
			if e != api.OK {
				continue
			}
			if i, e := Sub(sum, b); i != a || e != api.OK {
				t.Fatalf("%v minus %v is %v, %d", sum, b, i, e)
			}
			n, _ := Fifths(b)
			if k, e := Fifths(sum); k != m+n || e != api.OK {
				t.Fatalf("Fifths of the sum %v: %d, %d; want %d", sum, k, e, m+n)
			}
			c := l[(m+n+4000)%len(l)]
			left, e := Add(sum, c)
			right, f := Add(b, c)
			if e == api.OK && f == api.OK {
				if right, f = Add(a, right); right != left || f != api.OK {
					t.Fatalf("%v, %v and %v: %v, %v", a, b, c, left, right)
				}
			}
		}
	}
}

// P6.8: Exact is an action of intervals on pitches.
func TestAction(t *testing.T) {
	l := pitches()
	for x, a := range l {
		if p, e := Exact(a.p, api.Interval{}); p != a.p || e != api.OK {
			t.Errorf("%v by nothing is %v, %d", a.p, p, e)
		}
		for _, b := range l {
			i, _ := Between(a.p, b.p)
			if p, e := Exact(a.p, i); p != b.p || e != api.OK {
				t.Fatalf("Exact(%v, %v) = %v, %d; want %v", a.p, i, p, e, b.p)
			}
			c := l[(x*7+a.number*b.number)%len(l)]
			j, _ := Between(b.p, c.p)
			sum, e := Add(i, j)
			if p, f := Exact(a.p, sum); p != c.p || e != api.OK || f != api.OK {
				t.Fatalf("Exact(%v, %v) = %v, %d; want %v", a.p, sum, p, f, c.p)
			}
		}
	}
}

// P6.8
func TestTransposeKeepsNumbers(t *testing.T) {
	by := some(61)
	for _, a := range pitches() {
		for _, i := range by {
			p, e := Transpose(a.p, i)
			if n, _ := pitch.Number(p); e == api.OK && n != a.number+i.Semitones {
				t.Fatalf("Transpose(%v, %v) = %v has the number %d", a.p, i, p, n)
			}
			if possible := a.number+i.Semitones >= 0 && a.number+i.Semitones <= 127; possible != (e == api.OK) {
				t.Fatalf("Transpose(%v, %v) = %v, %d", a.p, i, p, e)
			}
		}
	}
}

// P6.8
func TestNewMemory(t *testing.T) {
	p := named(t, "C#4")
	a, _ := Enharmonics(p)
	b, _ := Enharmonics(p)
	want := slices.Clone(b)
	a[0], a[1] = api.Pitch{}, api.Pitch{}
	if c, _ := Enharmonics(p); !slices.Equal(b, want) || !slices.Equal(c, want) {
		t.Error("the result is not new memory")
	}
}
