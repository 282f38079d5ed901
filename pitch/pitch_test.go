package pitch

import (
	"math"
	"slices"
	"strconv"
	"strings"
	"testing"

	"hemiola/api"
)

// known is a pitch with all that the chapter says of it, found by counting instead of calculating.
type known struct {
	p                        api.Pitch
	number, diatonic, fifths int
	name                     string
}

// all returns the pitches that exist, by diatonic numbers and alterations.
func all() []known {
	var l []known
	diatonic := -8
	number := -1 // of the natural note before
	for octave := -1; octave <= 9; octave++ {
		for step, letter := range strings.Split("C D E F G A B", " ") {
			diatonic++
			number += 2
			if letter == "C" || letter == "F" {
				number--
			}
			for i, sign := range []string{"bb", "b", "", "#", "##"} {
				alter := i - 2
				// F C G D A E B are neighbours on the line, and so are all of them with one sharp more.
				fifths := strings.Index("FCGDAEB", letter) - 1 + 7*alter
				if n := number + alter; n >= 0 && n <= 127 {
					l = append(l, known{api.Pitch{Step: step, Alter: alter, Octave: octave}, n, diatonic, fifths, letter + sign + strconv.Itoa(octave)})
				}
			}
		}
	}
	return l
}

// parts are numbers within and beyond the limits of all parts of a pitch.
func parts() []int {
	l := []int{math.MinInt, math.MinInt + 1, -1 << 32, -100, 100, 1 << 32, math.MaxInt / 7, math.MaxInt - 1, math.MaxInt}
	for n := -5; n <= 12; n++ {
		l = append(l, n)
	}
	return l
}

// wrong are pitches that do not exist.
func wrong() []api.Pitch {
	exists := map[api.Pitch]bool{}
	for _, k := range all() {
		exists[k.p] = true
	}
	var l []api.Pitch
	for _, step := range parts() {
		for _, alter := range parts() {
			for _, octave := range parts() {
				if p := (api.Pitch{Step: step, Alter: alter, Octave: octave}); !exists[p] {
					l = append(l, p)
				}
			}
		}
	}
	return l
}

// P5.1, P5.5
func TestAll(t *testing.T) {
	if n := len(all()); n != 372 {
		t.Fatal(n)
	}
	for _, k := range all() {
		if e := Check(k.p); e != api.OK {
			t.Errorf("Check of %s = %d", k.name, e)
		}
		if n, e := Number(k.p); n != k.number || e != api.OK {
			t.Errorf("Number of %s = %d, %d; want %d", k.name, n, e, k.number)
		}
		if n, e := Diatonic(k.p); n != k.diatonic || e != api.OK {
			t.Errorf("Diatonic of %s = %d, %d; want %d", k.name, n, e, k.diatonic)
		}
		if n, e := Fifths(k.p); n != k.fifths || e != api.OK {
			t.Errorf("Fifths of %s = %d, %d; want %d", k.name, n, e, k.fifths)
		}
		if p, e := Of(k.diatonic, k.p.Alter); p != k.p || e != api.OK {
			t.Errorf("Of(%d, %d) = %v, %d; want %s", k.diatonic, k.p.Alter, p, e, k.name)
		}
		if s, e := Name(k.p); s != k.name || e != api.OK {
			t.Errorf("Name(%v) = %q, %d; want %q", k.p, s, e, k.name)
		}
		if p, at, e := Parse(k.name); p != k.p || at != 0 || e != api.OK {
			t.Errorf("Parse(%q) = %v, %d, %d", k.name, p, at, e)
		}
	}
}

// P5.1
func TestExamples(t *testing.T) {
	for _, c := range []struct {
		name                     string
		p                        api.Pitch
		number, diatonic, fifths int
	}{
		{"C4", api.Pitch{Octave: 4}, 60, 28, 0}, {"C#4", api.Pitch{Alter: 1, Octave: 4}, 61, 28, 7}, {"Db4", api.Pitch{Step: 1, Alter: -1, Octave: 4}, 61, 29, -5}, {"Bb3", api.Pitch{Step: 6, Alter: -1, Octave: 3}, 58, 27, -2},
		{"C-1", api.Pitch{Octave: -1}, 0, -7, 0}, {"Dbb-1", api.Pitch{Step: 1, Alter: -2, Octave: -1}, 0, -6, -12}, {"G9", api.Pitch{Step: 4, Octave: 9}, 127, 67, 1}, {"Abb9", api.Pitch{Step: 5, Alter: -2, Octave: 9}, 127, 68, -11}, {"Fbb0", api.Pitch{Step: 3, Alter: -2}, 15, 3, -15}, {"B##8", api.Pitch{Step: 6, Alter: 2, Octave: 8}, 121, 62, 19},
	} {
		n, _ := Number(c.p)
		d, _ := Diatonic(c.p)
		f, _ := Fifths(c.p)
		s, _ := Name(c.p)
		if n != c.number || d != c.diatonic || f != c.fifths || s != c.name {
			t.Errorf("%s: %d, %d, %d, %q", c.name, n, d, f, s)
		}
	}
}

// P5.1 and the contract: ErrPitch comes first, and with it other results are zero values.
func TestWrong(t *testing.T) {
	for _, p := range wrong() {
		if e := Check(p); e != api.ErrPitch {
			t.Fatalf("Check(%v) = %d", p, e)
		}
		for _, f := range []func(api.Pitch) (int, api.Errno){Number, Diatonic, Fifths} {
			if n, e := f(p); n != 0 || e != api.ErrPitch {
				t.Fatalf("%v: %d, %d", p, n, e)
			}
		}
		for _, steps := range []int{0, 1, math.MinInt} {
			if q, e := Respell(p, steps); q != (api.Pitch{}) || e != api.ErrPitch {
				t.Fatalf("Respell(%v, %d) = %v, %d", p, steps, q, e)
			}
		}
		if s, e := Name(p); s != "" || e != api.ErrPitch {
			t.Fatalf("Name(%v) = %q, %d", p, s, e)
		}
	}
	for _, p := range []api.Pitch{{Alter: -1, Octave: -1}, {Alter: -2, Octave: -1}, {Step: 1, Alter: -3, Octave: 4}, {Step: 4, Alter: 1, Octave: 9}, {Step: 5, Alter: -1, Octave: 9}, {Step: 6, Octave: 9}, {Step: 7, Octave: 4}, {Octave: -2, Alter: 2, Step: 6}, {Octave: 10}} {
		if e := Check(p); e != api.ErrPitch {
			t.Errorf("Check(%v) = %d", p, e)
		}
	}
}

// P5.1
func TestOf(t *testing.T) {
	places := map[[2]int]api.Pitch{}
	for _, k := range all() {
		places[[2]int{k.diatonic, k.p.Alter}] = k.p
	}
	diatonics := parts()
	for n := -30; n <= 90; n++ {
		diatonics = append(diatonics, n)
	}
	for _, diatonic := range diatonics {
		for _, alter := range parts() {
			want, ok := places[[2]int{diatonic, alter}]
			if p, e := Of(diatonic, alter); p != want || ok != (e == api.OK) || !ok && e != api.ErrPitch {
				t.Errorf("Of(%d, %d) = %v, %d; want %v", diatonic, alter, p, e, want)
			}
		}
	}
}

// P5.2
func TestEnharmonics(t *testing.T) {
	for number := range 128 {
		var want []api.Pitch
		for _, k := range all() { // by diatonic numbers
			if k.number == number {
				want = append(want, k.p)
			}
		}
		if l, e := Enharmonics(number); !slices.Equal(l, want) || e != api.OK {
			t.Errorf("Enharmonics(%d) = %v, %d; want %v", number, l, e, want)
		}
	}
	for number, want := range map[int]string{0: "C-1 Dbb-1", 1: "C#-1 Db-1", 2: "C##-1 D-1 Ebb-1", 59: "A##3 B3 Cb4", 60: "B#3 C4 Dbb4", 61: "B##3 C#4 Db4", 68: "G#4 Ab4", 126: "E##9 F#9 Gb9", 127: "F##9 G9 Abb9"} {
		var names []string
		l, _ := Enharmonics(number)
		for _, p := range l {
			s, _ := Name(p)
			names = append(names, s)
		}
		if got := strings.Join(names, " "); got != want {
			t.Errorf("Enharmonics(%d) = %s; want %s", number, got, want)
		}
	}
	for _, number := range []int{math.MinInt, -60, -1, 128, 200, math.MaxInt} {
		if l, e := Enharmonics(number); len(l) != 0 || e != api.ErrRange {
			t.Errorf("Enharmonics(%d) = %v, %d", number, l, e)
		}
	}
}

// P5.2
func TestRespell(t *testing.T) {
	steps := parts()
	for n := 5; n < 80; n++ {
		steps = append(steps, n, -n)
	}
	pitches := all()
	for _, k := range pitches {
		for _, by := range steps {
			var want api.Pitch
			wantError := api.ErrPitch
			for _, q := range pitches {
				if q.number == k.number && by > -100 && by < 100 && q.diatonic == k.diatonic+by {
					want, wantError = q.p, api.OK
				}
			}
			if p, e := Respell(k.p, by); p != want || e != wantError {
				t.Errorf("Respell of %s by %d = %v, %d; want %v", k.name, by, p, e, want)
			}
		}
	}
	for _, c := range []struct {
		from string
		by   int
		to   string
	}{{"C4", -1, "B#3"}, {"C4", 1, "Dbb4"}, {"C4", 0, "C4"}, {"C4", 2, ""}, {"C4", -2, ""}, {"B##3", 2, "Db4"}, {"Ab4", 1, ""}, {"C-1", -1, ""}, {"G9", 1, "Abb9"}} {
		p, _, _ := Parse(c.from)
		q, _ := Respell(p, c.by)
		if s, _ := Name(q); c.to != "" && s != c.to || c.to == "" && q != (api.Pitch{}) {
			t.Errorf("Respell of %s by %d = %v", c.from, c.by, q)
		}
	}
}

// P5.3
func TestSimple(t *testing.T) {
	sharps, flats := strings.Fields("C C# D D# E F F# G G# A A# B"), strings.Fields("C Db D Eb E F Gb G Ab A Bb B")
	for number := range 128 {
		octave := strconv.Itoa(number/12 - 1)
		for flat, names := range map[bool][]string{false: sharps, true: flats} {
			p, e := Simple(number, flat)
			if s, _ := Name(p); s != names[number%12]+octave || e != api.OK {
				t.Errorf("Simple(%d, %v) = %v, %d", number, flat, p, e)
			}
		}
	}
	for _, number := range []int{math.MinInt, -1, 128, math.MaxInt} {
		for _, flat := range []bool{false, true} {
			if p, e := Simple(number, flat); p != (api.Pitch{}) || e != api.ErrRange {
				t.Errorf("Simple(%d, %v) = %v, %d", number, flat, p, e)
			}
		}
	}
}

// P5.4
func TestCompare(t *testing.T) {
	var l []api.Pitch
	for number := range 128 {
		for _, k := range all() { // by diatonic numbers
			if k.number == number {
				l = append(l, k.p)
			}
		}
	}
	for i, a := range l {
		for j, b := range l {
			want := 0
			if i < j {
				want = -1
			} else if i > j {
				want = 1
			}
			if c := Compare(a, b); c != want {
				t.Fatalf("Compare(%v, %v) = %d; want %d", a, b, c, want)
			}
		}
	}
	none := []api.Pitch{{Alter: -1, Octave: -1}, {Step: 6, Octave: 9}, {Step: 7}, {Step: -1, Octave: 4}, {Octave: math.MaxInt}, {Octave: math.MinInt, Alter: math.MinInt, Step: math.MinInt}}
	for _, a := range none {
		for _, b := range l {
			if Compare(a, b) != -1 || Compare(b, a) != 1 {
				t.Fatalf("%v does not come before %v", a, b)
			}
		}
		for _, b := range none {
			if Compare(a, b) != 0 {
				t.Errorf("%v and %v are not equal", a, b)
			}
		}
	}
}

// P5.5
func TestParseErrors(t *testing.T) {
	for _, c := range []struct {
		s  string
		at int
		e  api.Errno
	}{
		{"", 0, api.ErrShort},
		{"H4", 0, api.ErrByte}, {"c4", 0, api.ErrByte}, {"b4", 0, api.ErrByte}, {" C4", 0, api.ErrByte}, {"4", 0, api.ErrByte}, {"#4", 0, api.ErrByte}, {"\xc3", 0, api.ErrByte}, {"\x00", 0, api.ErrByte}, {"H", 0, api.ErrByte},
		{"C", 1, api.ErrFormat}, {"C#", 1, api.ErrFormat}, {"Cbb", 1, api.ErrFormat}, {"C###4", 1, api.ErrFormat}, {"Cbbb4", 1, api.ErrFormat}, {"Cb#4", 1, api.ErrFormat}, {"C#b4", 1, api.ErrFormat}, {"CB4", 1, api.ErrFormat}, {"C4#", 1, api.ErrFormat}, {"C10", 1, api.ErrFormat}, {"C-2", 1, api.ErrFormat}, {"C-0", 1, api.ErrFormat}, {"C+4", 1, api.ErrFormat}, {"C04", 1, api.ErrFormat}, {"C4 ", 1, api.ErrFormat}, {"C 4", 1, api.ErrFormat}, {"C--1", 1, api.ErrFormat}, {"C-", 1, api.ErrFormat}, {"C4C4", 1, api.ErrFormat}, {"C4\x00", 1, api.ErrFormat}, {"C99999999999999999999", 1, api.ErrFormat}, {"C" + strings.Repeat("#", 1000) + "4", 1, api.ErrFormat}, {"C0x4", 1, api.ErrFormat}, {"C1_0", 1, api.ErrFormat}, {"C𝟒", 1, api.ErrFormat},
		{"B9", 0, api.ErrPitch}, {"A9", 0, api.ErrPitch}, {"Ab9", 0, api.ErrPitch}, {"G#9", 0, api.ErrPitch}, {"Cb-1", 0, api.ErrPitch}, {"Cbb-1", 0, api.ErrPitch},
	} {
		if p, at, e := Parse(c.s); p != (api.Pitch{}) || at != c.at || e != c.e {
			t.Errorf("Parse(%q) = %v, %d, %d; want %d, %d", c.s, p, at, e, c.at, c.e)
		}
	}
}

// P5.5: all short texts of some bytes.
func TestParseAll(t *testing.T) {
	names := map[string]api.Pitch{}
	for _, k := range all() {
		names[k.name] = k.p
	}
	rests := map[string]bool{}
	for _, sign := range []string{"", "b", "bb", "#", "##"} {
		for octave := -1; octave <= 9; octave++ {
			rests[sign+strconv.Itoa(octave)] = true
		}
	}
	expect := func(s string) (at int, e api.Errno) {
		switch {
		case s == "":
			return 0, api.ErrShort
		case !strings.Contains("ABCDEFG", s[:1]):
			return 0, api.ErrByte
		case !rests[s[1:]]:
			return 1, api.ErrFormat
		case names[s] == api.Pitch{} && s != "C0":
			return 0, api.ErrPitch
		}
		return 0, api.OK
	}
	texts := []string{""}
	for first := 0; len(texts[len(texts)-1]) < 5; {
		last := len(texts)
		for ; first < last; first++ {
			for _, c := range "BCH-019b#+" {
				texts = append(texts, texts[first]+string(c))
			}
		}
	}
	for _, s := range texts {
		wantAt, want := expect(s)
		if p, at, e := Parse(s); p != names[s] || at != wantAt || e != want {
			t.Fatalf("Parse(%q) = %v, %d, %d; want %d, %d", s, p, at, e, wantAt, want)
		}
	}
}

// P5.6
func TestConsequences(t *testing.T) {
	seen := map[[2]int]api.Pitch{}
	for number := range 128 {
		l, _ := Enharmonics(number)
		for _, p := range l {
			first, _ := Fifths(l[0])
			f, _ := Fifths(p)
			if (f-first)%12 != 0 {
				t.Errorf("%v and %v differ by %d fifths", l[0], p, f-first)
			}
			if q, ok := seen[[2]int{number, f}]; ok {
				t.Errorf("%v and %v have the same number and place", p, q)
			}
			seen[[2]int{number, f}] = p
			d, _ := Diatonic(p)
			if q, e := Of(d, p.Alter); q != p || e != api.OK {
				t.Errorf("%v comes back as %v", p, q)
			}
			s, _ := Name(p)
			if q, _, e := Parse(s); q != p || e != api.OK {
				t.Errorf("%q is read as %v", s, q)
			}
		}
	}
	if len(seen) != len(all()) {
		t.Errorf("%d pitches", len(seen))
	}
	a, _ := Enharmonics(61)
	b, _ := Enharmonics(61)
	want := slices.Clone(b)
	a[0], a[1] = api.Pitch{}, api.Pitch{}
	if c, _ := Enharmonics(61); !slices.Equal(b, want) || !slices.Equal(c, want) {
		t.Error("the result is not new memory")
	}
}
