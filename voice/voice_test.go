package voice

import (
	"math"
	"slices"
	"strconv"
	"strings"
	"testing"

	"hemiola/api"
	"hemiola/duration"
	"hemiola/metre"
	"hemiola/pitch"
)

const (
	whole   = 1935360
	half    = whole / 2
	quarter = whole / 4
	eighth  = whole / 8
	finest  = whole / 256
)

// signs are the letters after the value of an event, and what they change.
var signs = []struct {
	letter string
	change func(x *api.Event)
}{
	{"^", func(x *api.Event) { x.Articulations |= api.Fermata }},
	{"a", func(x *api.Event) { x.Articulations |= api.Accent }},
	{"f", func(x *api.Event) { x.Dynamic = 6 }},
	{"t", func(x *api.Event) { x.Ornament = api.Trill }},
	{"g", func(x *api.Event) { x.Graces = []api.Grace{{Pitch: api.Pitch{Octave: 4}, Log: 3}} }},
	{"l", func(x *api.Event) { x.Lyrics = []api.Syllable{{Text: "la"}} }},
	{"u", func(x *api.Event) { x.Stem = api.StemUp }},
	{"d", func(x *api.Event) { x.Stem = api.StemDown }},
	{"j", func(x *api.Event) { x.Beam = api.BeamJoin }},
}

// read reads a voice: events like "C4~+E4!:8.@7^u" (heads with ties and Show, value, the number of the id, signs), "r:4", "s:4" and "m"; tuplets like "3/2( .. )".
func read(text string) api.Voice {
	var v api.Voice
	var open []int
	for _, word := range strings.Fields(text) {
		switch {
		case word == ")":
			last := len(open) - 1
			v.Tuplets[open[last]].Count = len(v.Events) - v.Tuplets[open[last]].First
			open = open[:last]
		case strings.HasSuffix(word, "("):
			actual, normal, _ := strings.Cut(strings.TrimSuffix(word, "("), "/")
			open = append(open, len(v.Tuplets))
			v.Tuplets = append(v.Tuplets, api.Tuplet{First: len(v.Events), Actual: integer(actual), Normal: integer(normal)})
		default:
			v.Events = append(v.Events, readEvent(word))
		}
	}
	return v
}

func integer(s string) int {
	n, err := strconv.Atoi(s)
	if err != nil {
		panic(err)
	}
	return n
}

func readEvent(word string) api.Event {
	name, rest, valued := strings.Cut(word, ":")
	var x api.Event
	if !valued {
		name, rest = word[:1], word[1:]
	} else {
		n := len(rest) - len(strings.TrimLeft(rest, "b0123456789."))
		v, e := duration.Parse(rest[:n])
		if e != api.OK {
			panic(word)
		}
		x.Value, rest = v, rest[n:]
	}
	if number, ok := strings.CutPrefix(rest, "@"); ok {
		n := len(number) - len(strings.TrimLeft(number, "0123456789"))
		x.ID.Number, rest = integer(number[:n]), number[n:]
	}
	for _, c := range signs {
		if strings.Contains(rest, c.letter) {
			c.change(&x)
		}
	}
	switch name {
	case "m":
		x.Kind = api.MeasureRest
	case "r":
		x.Kind = api.Rest
	case "s":
		x.Kind = api.Skip
	default:
		x.Kind = api.Chord
		for _, s := range strings.Split(name, "+") {
			h := api.Head{Tied: strings.Contains(s, "~")}
			if strings.Contains(s, "!") {
				h.Show = api.ShowAlways
			}
			h.Pitch, _, _ = pitch.Parse(strings.TrimRight(s, "~!"))
			x.Heads = append(x.Heads, h)
		}
	}
	return x
}

// write writes a voice as read reads it.
func write(v api.Voice) string {
	var l []string
	for i, x := range v.Events {
		for _, t := range v.Tuplets {
			if t.First == i {
				l = append(l, strconv.Itoa(t.Actual)+"/"+strconv.Itoa(t.Normal)+"(")
			}
		}
		l = append(l, writeEvent(x))
		for _, t := range v.Tuplets {
			if t.First+t.Count == i+1 {
				l = append(l, ")")
			}
		}
	}
	return strings.Join(l, " ")
}

func writeEvent(x api.Event) string {
	var heads []string
	for _, h := range x.Heads {
		s, _ := pitch.Name(h.Pitch)
		heads = append(heads, s+strings.Repeat("~", strings.Count("true", strconv.FormatBool(h.Tied)))+strings.Repeat("!", h.Show))
	}
	s := strings.Join(heads, "+")
	if x.Kind != api.Chord {
		s = [5]string{2: "r", 3: "m", 4: "s"}[x.Kind]
	}
	if x.Kind != api.MeasureRest {
		value, _ := duration.Text(x.Value)
		s += ":" + value
	}
	if x.ID.Number != 0 {
		s += "@" + strconv.Itoa(x.ID.Number)
	}
	for _, c := range signs {
		changed := x
		c.change(&changed)
		if same(api.Voice{Events: []api.Event{changed}}, api.Voice{Events: []api.Event{x}}) {
			s += c.letter
		}
	}
	return s
}

// same compares voices field by field without the packages' functions.
func same(a, b api.Voice) bool {
	return slices.Equal(a.Tuplets, b.Tuplets) && slices.EqualFunc(a.Events, b.Events, func(x, y api.Event) bool {
		plain := func(e api.Event) [10]int {
			return [10]int{e.ID.Site, e.ID.Number, e.Kind, e.Value.Log, e.Value.Dots, e.Articulations, e.Ornament, e.Dynamic, e.Stem, e.Beam}
		}
		return plain(x) == plain(y) && slices.Equal(x.Heads, y.Heads) && slices.Equal(x.Graces, y.Graces) && slices.Equal(x.Lyrics, y.Lyrics)
	})
}

// in is the place of a whole measure of a metre.
func in(text string) Place {
	m, e := metre.Parse(text)
	if e != api.OK {
		panic(text)
	}
	n, _ := metre.Length(m)
	return Place{Metre: m, Length: n}
}

// at is a place with another offset and length.
func at(text string, offset, length int) Place {
	return Place{Metre: in(text).Metre, Offset: offset, Length: length}
}

func repeated(n int, words string) string { return strings.Repeat(words+" ", n) }

// wrong are voices for a measure of a quarter note that are not valid, with their errors.
func wrong() map[api.Errno][]api.Voice {
	l := func(texts ...string) []api.Voice {
		var l []api.Voice
		for _, s := range texts {
			l = append(l, read(s))
		}
		return l
	}
	many := read(repeated(17, "3/2( r:64 r:64 r:64 )"))
	bad := api.Voice{Events: []api.Event{{Kind: 5}}}
	unit := read("5/4( r:8 r:8 r:8 )")
	tupletsOnly := api.Voice{Tuplets: []api.Tuplet{{First: 0, Count: 1, Actual: 3, Normal: 2}}}
	crossing := read("r:8 r:8 r:8")
	crossing.Tuplets = []api.Tuplet{{First: 0, Count: 2, Actual: 3, Normal: 2}, {First: 1, Count: 2, Actual: 3, Normal: 2}}
	long := api.Voice{Events: make([]api.Event, 129)}
	measureRest := read("m")
	measureRest.Tuplets = []api.Tuplet{{First: 0, Count: 1, Actual: 3, Normal: 2}}
	return map[api.Errno][]api.Voice{
		api.ErrLimit:  {long, read(repeated(129, "r:256")), many},
		api.ErrKind:   append(l("m m", "m r:4", "r:4 m", "r:4 m C4:4", "r:8 m D4+C4:8"), bad),
		api.ErrOrder:  l("D4+C4:4", "D4+C4:4 m"),
		api.ErrFormat: l("m:4", "m:4 r:4"),
		api.ErrTuplet: {measureRest, unit, crossing, read("3/2( r:8 r:8 )"), read("3/2( r:4 )")},
		api.ErrTick:   {read("32/31( r:256... r:256... )"), read("r:8 r:8 11/10( C4:8 D4:8 )")},
		api.ErrRange:  {tupletsOnly},
		api.ErrLength: l("C4:4 r:4", "C4:8", "r:4.", "3/2( r:8 r:8 r:8 ) r:256"),
	}
}

// P12.1
func TestCheck(t *testing.T) {
	for _, c := range []struct {
		text   string
		length int
		e      api.Errno
	}{
		{"", quarter, api.OK}, {"m", 1, api.OK}, {"m@7^f", MaxLength, api.OK}, {"C4:4", quarter, api.OK}, {"r:8 s:8", quarter, api.OK}, {"C4:8~ m", quarter, api.ErrKind},
		{"3/2( r:8 r:8 r:8 )", quarter, api.OK}, {"3/2( r:8 3/2( C4:16 D4:16 E4:16 ) r:8 )", quarter, api.OK}, {"3/2( r:4. ) C4:4", 2 * quarter, api.OK}, {"3/2( r:4 ) C4:4", quarter, api.ErrTuplet},
		{"C4:b...", 2*whole + whole + half + quarter, api.OK}, {"C4:256", finest, api.OK},
		{repeated(128, "r:32"), 4 * whole, api.OK}, {repeated(16, "3/2( r:64 r:64 r:64 )"), 16 * whole / 32, api.OK},
		{repeated(4, "C4:b"), MaxLength, api.OK},
		{"", 0, api.ErrRange}, {"", -1, api.ErrRange}, {"", MaxLength + 1, api.ErrRange}, {"", MaxLength, api.OK}, {"", 1, api.OK}, {"m", 0, api.ErrRange}, {"m", math.MaxInt, api.ErrRange}, {"D4+C4:4", math.MinInt, api.ErrRange},
		{"m C4:4", quarter, api.ErrKind}, {"D4+C4:4 m", quarter, api.ErrOrder}, {"m D4+C4:4", quarter, api.ErrKind}, {"C4:4 C4:4", quarter, api.ErrLength},
		{repeated(129, "m"), 0, api.ErrRange}, {repeated(129, "m"), quarter, api.ErrLimit}, {"11/10( C4:8 D4:8 ) m", quarter, api.ErrKind}, {"11/10( C4:8 D4:8 )", quarter, api.ErrTick},
		{"32/31( C4:256... )", quarter, api.ErrTick}, {"3/2( r:8 r:8 )", quarter, api.ErrTuplet}, {"m:4", quarter, api.ErrFormat},
	} {
		v := read(c.text)
		if e := Check(v, c.length); e != c.e {
			t.Errorf("Check(%s, %d) = %d; want %d", c.text, c.length, e, c.e)
		}
		if write(v) != strings.Join(strings.Fields(c.text), " ") && c.e == api.OK {
			t.Errorf("%s is written %s", c.text, write(v))
		}
	}
	for want, l := range wrong() {
		for i, v := range l {
			if e := Check(v, quarter); e != want {
				t.Errorf("Check of the voice %d with the error %d: %d", i, want, e)
			}
		}
	}
}

// P12.2
func TestLengths(t *testing.T) {
	const e3 = eighth * 2 / 3
	for _, c := range []struct {
		text    string
		length  int
		lengths []int
	}{
		{"", quarter, nil}, {"m", 77, []int{77}}, {"m^", MaxLength, []int{MaxLength}},
		{"C4:2 r:4 s:8. D4+E4:16", whole, []int{half, quarter, eighth * 3 / 2, eighth / 2}},
		{"r:4 3/2( C4:8 D4:8 E4:8 ) r:4", 3 * quarter, []int{quarter, e3, e3, e3, quarter}},
		{"3/2( C4:8 3/2( D4:16 E4:16 F4:16 ) G4:8 )", quarter, []int{161280, 53760, 53760, 53760, 161280}},
	} {
		v := read(c.text)
		l, e := Lengths(v, c.length)
		if !slices.Equal(l, c.lengths) || e != api.OK {
			t.Errorf("Lengths(%s) = %v, %d; want %v", c.text, l, e, c.lengths)
		}
		var onsets []int
		end := 0
		for _, n := range c.lengths {
			onsets = append(onsets, end)
			end += n
		}
		if l, e := Onsets(v, c.length); !slices.Equal(l, onsets) || e != api.OK {
			t.Errorf("Onsets(%s) = %v, %d; want %v", c.text, l, e, onsets)
		}
		for _, length := range []int{c.length, 1, MaxLength} {
			want := end
			if c.text != "" && c.text[0] == 'm' {
				want = length
			}
			if n, e := Length(v, length); n != want || e != api.OK {
				t.Errorf("Length(%s, %d) = %d, %d; want %d", c.text, length, n, e, want)
			}
		}
	}
	for want, l := range wrong() {
		for i, v := range l {
			lengths, e := Lengths(v, quarter)
			onsets, f := Onsets(v, quarter)
			if len(lengths) > 0 || len(onsets) > 0 || e != want || f != want {
				t.Errorf("Lengths and Onsets of the voice %d with the error %d: %v, %d, %v, %d", i, want, lengths, e, onsets, f)
			}
			n, e := Length(v, quarter)
			if want == api.ErrLength && (n == 0 || e != api.OK) || want != api.ErrLength && (n != 0 || e != want) {
				t.Errorf("Length of the voice %d with the error %d: %d, %d", i, want, n, e)
			}
		}
	}
	if n, e := Length(read("C4:4"), 0); n != 0 || e != api.ErrRange {
		t.Errorf("Length in a measure without length = %d, %d", n, e)
	}
	if n, e := Length(read(repeated(3, "C4:b...")), 5); n != 3*7257600 || e != api.OK {
		t.Errorf("Length beyond MaxLength = %d, %d", n, e)
	}
}

// P12.3
func TestAt(t *testing.T) {
	text := "C4~+E4:4 r:8 3/2( D4:16 E4:16 F4!:16 ) s:2"
	for _, c := range []struct {
		text               string
		tick, index, onset int
		heads              string
		e                  api.Errno
	}{
		{text, 0, 0, 0, "C4~+E4", api.OK}, {text, quarter - 1, 0, 0, "C4~+E4", api.OK}, {text, quarter, 1, quarter, "", api.OK}, {text, quarter + 1, 1, quarter, "", api.OK},
		{text, quarter + eighth, 2, quarter + eighth, "D4", api.OK}, {text, quarter + eighth + eighth/3, 3, quarter + eighth + eighth/3, "E4", api.OK},
		{text, half - 1, 4, half - eighth/3, "F4!", api.OK}, {text, half, 5, half, "", api.OK}, {text, whole - 1, 5, half, "", api.OK},
		{text, whole, 0, 0, "", api.ErrRange}, {text, -1, 0, 0, "", api.ErrRange}, {text, math.MinInt, 0, 0, "", api.ErrRange}, {text, math.MaxInt, 0, 0, "", api.ErrRange},
		{"m", 0, 0, 0, "", api.OK}, {"m", whole - 1, 0, 0, "", api.OK}, {"m", whole, 0, 0, "", api.ErrRange},
		{"", 0, 0, 0, "", api.ErrState}, {"", -1, 0, 0, "", api.ErrState}, {"C4:4", 0, 0, 0, "", api.ErrLength}, {"C4:4 m", -1, 0, 0, "", api.ErrKind}, {"D4+C4:1", 0, 0, 0, "", api.ErrOrder},
	} {
		v := read(c.text)
		index, onset, e := At(v, whole, c.tick)
		if index != c.index || onset != c.onset || e != c.e {
			t.Errorf("At(%s, %d) = %d, %d, %d; want %d, %d, %d", c.text, c.tick, index, onset, e, c.index, c.onset, c.e)
		}
		var want []api.Head
		if c.heads != "" {
			want = read(c.heads + ":4").Events[0].Heads
		}
		if l := Sounding(v, whole, c.tick); !slices.Equal(l, want) {
			t.Errorf("Sounding(%s, %d) = %v; want %v", c.text, c.tick, l, want)
		}
	}
	for want, l := range wrong() {
		for i, v := range l {
			if index, onset, e := At(v, quarter, 1); index != 0 || onset != 0 || e != want || len(Sounding(v, quarter, 0)) > 0 {
				t.Errorf("At of the voice %d with the error %d: %d, %d, %d", i, want, index, onset, e)
			}
		}
	}
}

// P12.4
func TestNotes(t *testing.T) {
	all := "C4~!+E4:8@7^aftgluj"
	for _, c := range []struct {
		text, metre string
		from, to    int
		want        string
		e           api.Errno
	}{
		{"C4:8", "4/4", 0, whole, "C4:1", api.OK}, {"C4:8", "4/4", quarter, half, "C4:4", api.OK}, {"C4:8", "4/4", quarter, quarter, "", api.OK},
		{"C4:8@7", "4/4", quarter, whole, "C4~:4@7 C4:2", api.OK}, {"C4~:8@7", "4/4", quarter, whole, "C4~:4@7 C4~:2", api.OK},
		{all, "4/4", quarter, quarter + eighth, all, api.OK},
		{all, "4/4", quarter, whole, "C4~!+E4~:4@7^aftgluj C4~+E4:2u", api.OK},
		{"C4!+E4~:8d", "4/4", eighth, 2*whole + eighth, "C4~!+E4~:8d C4~+E4~:4d C4~+E4~:2d C4~+E4~:1d C4+E4~:8d", api.OK},
		{"r:1@7^f", "4/4", quarter, whole, "r:4@7^f r:2", api.OK}, {"s:1@7f", "6/8", 0, half, "s:4.@7f s:8", api.OK},
		{"m", "4/4", 0, whole, "", api.ErrKind}, {"m", "4/4", 1, 0, "", api.ErrKind}, {"m:4", "4/4", 1, 0, "", api.ErrFormat}, {"D4+C4:4", "4/4", 0, whole, "", api.ErrOrder},
		{"C4:4", "4/4", -finest, whole, "", api.ErrRange}, {"C4:4", "4/4", whole, half, "", api.ErrRange}, {"C4:4", "4/4", 0, api.MaxTime + finest, "", api.ErrRange},
		{"C4:4", "4/4", 1, whole, "", api.ErrTick}, {"C4:4", "4/4", 0, whole - 1, "", api.ErrTick}, {"C4:4", "4/4", 5, 5, "", api.ErrTick}, {"C4:4", "4/4", 0, MaxLength + finest, "", api.ErrLong},
		{"C4:4", "4/4", math.MinInt, math.MaxInt, "", api.ErrRange},
	} {
		m := in(c.metre).Metre
		l, e := Notes(read(c.text).Events[0], m, c.from, c.to)
		if !same(api.Voice{Events: l}, read(c.want)) || e != c.e {
			t.Errorf("Notes(%s, %s, %d, %d) = %s, %d; want %s, %d", c.text, c.metre, c.from, c.to, write(api.Voice{Events: l}), e, c.want, c.e)
		}
		if c.text[0] != 'C' {
			continue
		}
		rests := read(c.want)
		for i, x := range rests.Events {
			rests.Events[i] = api.Event{Kind: api.Rest, Value: x.Value}
		}
		if l, e := Rests(m, c.from, c.to); !same(api.Voice{Events: l}, rests) || e != c.e {
			t.Errorf("Rests(%s, %d, %d) = %s, %d; want %s, %d", c.metre, c.from, c.to, write(api.Voice{Events: l}), e, write(rests), c.e)
		}
	}
	for _, m := range []api.Metre{{}, {Count: 4, Unit: 3}, {Count: 4, Unit: 4, Groups: [6]int{1}}} {
		want := metre.Check(m)
		l, e := Notes(read("C4:4").Events[0], m, 1, 0)
		rests, f := Rests(m, 1, 0)
		if len(l) > 0 || len(rests) > 0 || e != want || f != want {
			t.Errorf("Notes and Rests of %v: %v, %d, %v, %d; want %d", m, l, e, rests, f, want)
		}
	}
}

// result is a row of a table: a voice and a place, and what a function returns.
type result struct {
	text     string
	p        Place
	from, to int
	want     string
	e        api.Errno
}

func (c result) compare(t *testing.T, name string, v api.Voice, e api.Errno) {
	t.Helper()
	if !same(v, read(c.want)) || e != c.e {
		t.Errorf("%s(%s, %v, %d, %d) = %s, %d; want %s, %d", name, c.text, c.p, c.from, c.to, write(v), e, c.want, c.e)
	}
}

var four, three = in("4/4"), in("3/4")

// P12.5
func TestDivide(t *testing.T) {
	triplet := "3/2( r:8 C4:8 D4:8 )"
	offBeat := "C4:256... D4:256... " + "E4:4 " // begins at 28350, which is no multiple of the finest value
	for _, c := range []result{
		{"C5:1", four, quarter, 0, "C5~:4 C5~:4 C5:2", api.OK},
		{"C5:1@7", four, half, 0, "C5~:2@7 C5:2", api.OK}, {"C5~:1@7", four, half, 0, "C5~:2@7 C5~:2", api.OK},
		{"C5!+E5~:1@7^aftgluj", four, half, 0, "C5~!+E5~:2@7^aftgluj C5+E5~:2u", api.OK},
		{"C5!:1@7", four, eighth, 0, "C5~!:8@7 C5~:8 C5~:4 C5:2", api.OK}, {"C5!:1@7", four, whole - eighth, 0, "C5~!:2..@7 C5:8", api.OK},
		{"C5:1", four, 0, 0, "C5:1", api.OK}, {"C5:1", four, whole, 0, "C5:1", api.OK}, {"r:2@1 r:2@2", four, half, 0, "r:2@1 r:2@2", api.OK},
		{"r:2@1 r:2@2^f", four, 3 * quarter, 0, "r:2@1 r:4@2^f r:4", api.OK}, {"s:2f r:2", four, quarter, 0, "s:4f s:4 r:2", api.OK},
		{"m@7^f", four, quarter, 0, "r:4@7^f r:4 r:2", api.OK}, {"m", three, quarter, 0, "r:4 r:2", api.OK}, {"m@7", four, 0, 0, "m@7", api.OK}, {"m@7", four, whole, 0, "m@7", api.OK},
		{"m@7", four, 7, 0, "", api.ErrTick},
		{triplet + " r:2 " + triplet, four, half, 0, triplet + " r:4 r:4 " + triplet, api.OK},
		{triplet + " r:2 " + triplet, four, quarter / 3, 0, triplet + " r:2 " + triplet, api.OK},
		{triplet + " r:2 " + triplet, four, finest, 0, "", api.ErrFit}, {triplet + " r:2 " + triplet, four, 1, 0, "", api.ErrFit}, {triplet + " r:2 " + triplet, four, whole - 1, 0, "", api.ErrFit},
		{triplet + " r:2 " + triplet, four, half + 1, 0, "", api.ErrTick},
		{offBeat, at("4/4", 0, 28350+quarter), eighth, 0, "", api.ErrTick}, {offBeat, at("4/4", 0, 28350+quarter), 28350, 0, offBeat, api.OK}, {offBeat, at("4/4", 0, 28350+quarter), finest, 0, "", api.ErrTick},
		{offBeat, at("4/4", 3*finest-14175, 28350+quarter), finest, 0, "", api.ErrTick}, {offBeat, at("4/4", 4*finest-28350%finest, 28350+quarter), 28350 + eighth, 0, "C4:256... D4:256... E4~:256 E4~:32 E4~:16 E4~:64.. E4~:256 E4~:32 E4~:16 E4:64..", api.OK},
		{"C4:256. D4:64... r:8", at("4/4", 0, 41*finest), 4 * finest, 0, "", api.ErrTick}, {"D4:64... C4:256. r:8", at("4/4", 0, 41*finest), 4 * finest, 0, "", api.ErrTick}, // only the beginning, and only the end
		{"C5:2", at("4/4", half, half), quarter, 0, "C5~:4 C5:4", api.OK}, {"C5:2", at("4/4", half+finest, half), quarter, 0, "C5~:256 C5~:128 C5~:64 C5~:32 C5~:16 C5~:8 C5~:256 C5~:256 C5~:128 C5~:64 C5~:32 C5~:16 C5~:8 C5:256", api.OK},
		{"C5:2", at("4/4", half+1, half), quarter, 0, "", api.ErrTick}, {"C5:2", at("4/4", half+1, half), 0, 0, "C5:2", api.OK},
		{"", four, 0, 0, "", api.ErrState}, {"", four, -1, 0, "", api.ErrState}, {"C5:1", four, -1, 0, "", api.ErrRange}, {"C5:1", four, whole + 1, 0, "", api.ErrRange},
		{"C5:1", four, math.MinInt, 0, "", api.ErrRange}, {"C5:1", four, math.MaxInt, 0, "", api.ErrRange},
		{repeated(128, "r:32"), in("4/1"), finest, 0, "", api.ErrLimit}, {repeated(127, "r:32") + "3/2( r:64 r:64 r:64 )", in("4/1"), 0, 0, "", api.ErrLimit},
		{repeated(127, "r:32"), at("4/1", 0, 127*whole/32), finest * 4, 0, "r:64 r:64 " + repeated(126, "r:32"), api.OK},
		{repeated(127, "r:32"), at("4/1", 0, 127*whole/32), finest, 0, "", api.ErrLimit},
	} {
		v, e := Divide(read(c.text), c.p, c.from)
		c.compare(t, "Divide", v, e)
	}
}

// P12.6
func TestCut(t *testing.T) {
	text := "C4:4@1 3/2( D4:8@2 E4:8@3 F4:8@4 ) G4:2@5f"
	nest := "3/2( C4:8 3/2( D4:16 E4:16 F4:16 ) G4:8 ) 3/2( r:8 r:8 r:8 )"
	third := quarter / 3
	for _, c := range []result{
		{text, four, 0, whole, text, api.OK}, {text, four, 0, quarter, "C4:4@1", api.OK}, {text, four, quarter, half, "3/2( D4:8@2 E4:8@3 F4:8@4 )", api.OK},
		{text, four, eighth, half, "C4:8 3/2( D4:8@2 E4:8@3 F4:8@4 )", api.OK}, {text, four, eighth, half + quarter, "C4:8 3/2( D4:8@2 E4:8@3 F4:8@4 ) G4~:4@5f", api.OK},
		{text, four, half + eighth, whole - eighth, "G4~:8 G4~:8", api.OK}, {text, four, eighth / 2, eighth, "C4~:16", api.OK},
		{text, four, 0, eighth, "C4~:8@1", api.OK}, {text, four, 0, 0, "", api.OK}, {text, four, whole, whole, "", api.OK}, {text, four, eighth, eighth, "", api.OK},
		{text, four, 1, 1, "", api.ErrTick}, {text, four, quarter + 1, quarter + 1, "", api.ErrFit}, {text, four, quarter + third, quarter + third, "", api.OK},
		{text, four, quarter + third, half, "", api.ErrFit}, {text, four, 0, quarter + third, "", api.ErrFit}, {text, four, quarter + third, quarter + 2*third, "", api.ErrFit},
		{text, four, 0, quarter + 1, "", api.ErrFit}, {text, four, 1, quarter + 1, "", api.ErrTick}, {text, four, quarter + 1, half + 1, "", api.ErrFit},
		{nest, in("2/4"), 0, quarter, "3/2( C4:8 3/2( D4:16 E4:16 F4:16 ) G4:8 )", api.OK}, {nest, in("2/4"), quarter, half, "3/2( r:8 r:8 r:8 )", api.OK},
		{nest, in("2/4"), third, 2 * third, "", api.ErrFit}, {nest, in("2/4"), 0, half, nest, api.OK},
		{"m@7f", four, 0, whole, "m@7f", api.OK}, {"m@7f", four, 0, half, "r:2@7f", api.OK}, {"m@7f", four, half, whole, "r:2", api.OK}, {"m@7f", four, 0, 0, "", api.OK}, {"m@7f", four, whole, whole, "", api.OK},
		{"", four, 0, whole, "", api.ErrState}, {"", four, 1, 0, "", api.ErrState}, {text, four, -1, 0, "", api.ErrRange}, {text, four, half, quarter, "", api.ErrRange}, {text, four, 0, whole + 1, "", api.ErrRange},
		{text, four, math.MinInt, math.MaxInt, "", api.ErrRange}, {text, four, math.MaxInt, math.MinInt, "", api.ErrRange},
		{repeated(128, "r:32"), in("4/1"), finest, whole, "", api.ErrLimit}, {repeated(127, "r:32"), at("4/1", 0, 127*whole/32), finest * 4, finest * 12, "", api.ErrLimit},
		{repeated(127, "r:32"), at("4/1", 0, 127*whole/32), finest * 4, finest * 16, "r:64 r:32", api.OK},
	} {
		v, e := Cut(read(c.text), c.p, c.from, c.to)
		c.compare(t, "Cut", v, e)
	}
}

// P12.7
func TestPut(t *testing.T) {
	text := "C4~:4@1 3/2( D4:8@2 E4:8@3 F4~:8@4 ) G4~:2@5f"
	triplet := "3/2( A4:8 A4:8 A4~:8 )"
	sixteen := repeated(16, "3/2( r:64 r:64 r:64 )")
	for i, c := range []struct {
		result
		x string
	}{
		{result{text, four, 0, quarter, "B4:4 3/2( D4:8@2 E4:8@3 F4~:8@4 ) G4~:2@5f", api.OK}, "B4:4"},
		{result{text, four, quarter, half, "C4:4@1 3/2( A4:8 A4:8 A4:8 ) G4~:2@5f", api.OK}, triplet},
		{result{text, four, half, whole, "C4~:4@1 3/2( D4:8@2 E4:8@3 F4:8@4 ) G4:4@9 C4~:4", api.OK}, "G4:4@9 C4~:4"},
		{result{text, four, half, whole, "C4~:4@1 3/2( D4:8@2 E4:8@3 F4~:8@4 ) F4:4 r:4", api.OK}, "F4:4 r:4"},
		{result{text, four, 0, eighth, "r:8 C4~:8 3/2( D4:8@2 E4:8@3 F4~:8@4 ) G4~:2@5f", api.OK}, "r:8"},
		{result{text, four, eighth, quarter, "C4~:8@1 C4:8 3/2( D4:8@2 E4:8@3 F4~:8@4 ) G4~:2@5f", api.OK}, "C4~:8"},
		{result{text, four, eighth, quarter, "C4:8@1 B#3+D4~:8 3/2( D4:8@2 E4:8@3 F4~:8@4 ) G4~:2@5f", api.OK}, "B#3~+D4~:8"},
		{result{text, four, half, half + quarter, "C4~:4@1 3/2( D4:8@2 E4:8@3 F4:8@4 ) 3/2( A4:8 A4:8 A4:8 ) G4~:4", api.OK}, triplet},
		{result{"m@7f", four, 0, quarter, "A4:4 r:4 r:2", api.OK}, "A4~:4"}, {result{"m@7f", four, 0, whole, "A4~:1", api.OK}, "A4~:1"},
		{result{"C4+E4~:2 r:2", four, half, whole, "C4+E4~:2 E4~+G4~:2", api.OK}, "E4~+G4~:2"},
		{result{"C4~+E4~:2 r:2", four, half, whole, "C4+E4~:2 E4~+G4~:2", api.OK}, "E4~+G4~:2"},
		{result{"C4:2 E4+G4:2", four, 0, half, "C4+E4~:2 E4+G4:2", api.OK}, "C4~+E4~:2"}, {result{"C4:2 s:2", four, 0, half, "C4:2 s:2", api.OK}, "C4~:2"},
		// What was tied without a next pitch elsewhere stays so.
		{result{"C4~:4 D4~:4 E4~:4 F4~:4", four, quarter, half, "C4:4 G4~:8 A4:8 E4~:4 F4~:4", api.OK}, "G4~:8 A4~:8"},
		{result{text, four, eighth, eighth, text, api.OK}, ""}, {result{text, four, 0, 0, text, api.OK}, ""}, {result{"m@7f", four, half, half, "m@7f", api.OK}, ""},
		{result{text, four, 1, 1, "", api.ErrTick}, ""}, {result{text, four, half, half, "", api.ErrLength}, "r:4"}, {result{text, four, half, half, "", api.ErrKind}, "m"}, {result{text, four, quarter + 1, quarter + 1, "", api.ErrFit}, "m"},
		{result{text, four, 0, quarter + quarter/3, "", api.ErrFit}, "m"}, {result{"", four, 1, 0, "", api.ErrState}, "m"}, {result{text, four, 1, 0, "", api.ErrRange}, "m"}, {result{text, four, 0, whole + 1, "", api.ErrRange}, "m"},
		{result{text, four, 0, quarter, "", api.ErrLimit}, repeated(129, "m")}, {result{text, four, 0, quarter, "", api.ErrKind}, "m"}, {result{text, four, 0, whole, "", api.ErrKind}, "m"}, {result{text, four, 0, quarter, "", api.ErrKind}, "r:4 m"},
		{result{text, four, 0, quarter, "", api.ErrOrder}, "D4+C4:4 m"}, {result{text, four, 0, quarter, "", api.ErrKind}, "m D4+C4:4"}, {result{text, four, 0, quarter, "", api.ErrFormat}, "m:4"},
		{result{text, four, 0, quarter, "", api.ErrTick}, "32/31( C4:256... )"}, {result{text, four, 0, quarter, "", api.ErrTuplet}, "3/2( r:8 r:8 )"}, {result{text, four, 0, quarter, "", api.ErrTuplet}, "3/2( r:4 )"},
		{result{text, four, 0, quarter, "", api.ErrLength}, "r:8"}, {result{text, four, 0, quarter, "", api.ErrLength}, "r:2"}, {result{text, four, 0, quarter, "", api.ErrLength}, ""}, {result{text, four, 0, quarter, "", api.ErrLimit}, repeated(17, "3/2( r:64 r:64 r:64 )")},
		{result{repeated(128, "r:32"), in("4/1"), 0, whole, repeated(97, "r:1")[:4] + " " + repeated(96, "r:32"), api.OK}, "r:1"},
		{result{repeated(128, "r:32"), in("4/1"), 0, whole / 32, "", api.ErrLimit}, "r:64 r:64"}, {result{repeated(128, "r:32"), in("4/1"), finest, whole / 32, "", api.ErrLimit}, "m"}, {result{repeated(128, "r:32"), in("4/1"), 0, whole / 32, "C4:32 " + repeated(127, "r:32"), api.OK}, "C4~:32"},
		{result{sixteen + "r:2", four, half, whole, "", api.ErrLimit}, "3/2( r:4 r:4 r:4 )"}, {result{sixteen + "r:2", four, 0, whole, "3/2( r:2 r:2 r:2 )", api.OK}, "3/2( r:2 r:2 r:2 )"},
		{result{sixteen + "r:2", four, 0, whole / 32, "3/2( C4:64 D4:64 E4:64 ) " + repeated(15, "3/2( r:64 r:64 r:64 )") + "r:2", api.OK}, "3/2( C4:64 D4:64 E4~:64 )"},
	} {
		v, e := Put(read(c.text), c.p, c.from, c.to, read(c.x))
		if !same(v, read(c.want)) || e != c.e {
			t.Errorf("%d: Put(%s, %d, %d, %s) = %s, %d; want %s, %d", i, c.text, c.from, c.to, c.x, write(v), e, c.want, c.e)
		}
	}
	only := api.Voice{Tuplets: []api.Tuplet{{First: 0, Count: 1, Actual: 3, Normal: 2}}}
	if v, e := Put(read("r:1"), four, 0, 0, only); !same(v, api.Voice{}) || e != api.ErrRange {
		t.Errorf("Put of tuplets only = %s, %d", write(v), e)
	}
	for want, l := range wrong() {
		for i, x := range l {
			if v, e := Put(read("m"), four, 0, quarter, x); !same(v, api.Voice{}) || e != want && !(want == api.ErrTuplet && e == api.ErrKind) {
				t.Errorf("Put of the voice %d with the error %d: %s, %d", i, want, write(v), e)
			}
		}
	}
}

// P12.8
func TestErase(t *testing.T) {
	text := "C4~:4@1 3/2( D4:8@2 E4:8@3 F4~:8@4 ) G4~:2@5f"
	offBeat := "C4:256... D4:256... " + "E4:4 "
	for _, c := range []result{
		{"m", three, 0, quarter, "r:4 r:2", api.OK}, {"m@7f", three, 0, 3 * quarter, "m", api.OK}, {text, four, 0, whole, "m", api.OK},
		{text, four, 0, quarter, "r:4 3/2( D4:8@2 E4:8@3 F4~:8@4 ) G4~:2@5f", api.OK}, {text, four, quarter, half, "C4:4@1 r:4 G4~:2@5f", api.OK}, {text, four, quarter, whole, "C4:4@1 r:4 r:2", api.OK},
		{text, four, half, whole, "C4~:4@1 3/2( D4:8@2 E4:8@3 F4:8@4 ) r:2", api.OK}, {text, four, half + eighth, whole - eighth, "C4~:4@1 3/2( D4:8@2 E4:8@3 F4~:8@4 ) G4:8@5f r:8 r:8 G4~:8", api.OK},
		{text, four, quarter, quarter, text, api.OK}, {text, four, eighth, eighth, text, api.OK}, {"m@7", four, 0, 0, "m@7", api.OK}, {"m@7", four, eighth, eighth, "m@7", api.OK},
		{"C4:4", at("4/4", 3*quarter, quarter), 0, eighth, "r:8 C4:8", api.OK}, {"C4:2.", at("6/8", 0, 3*quarter), 0, half, "r:4. r:8 C4:4", api.OK}, {"C4:4", at("4/4", 1, quarter), 0, quarter, "m", api.OK},
		{"", four, 0, whole, "", api.ErrState}, {text, four, -1, 0, "", api.ErrRange}, {text, four, half, quarter, "", api.ErrRange}, {text, four, 0, whole + 1, "", api.ErrRange}, {text, four, 1, half, "", api.ErrTick},
		{text, four, 0, quarter + 1, "", api.ErrFit}, {text, four, quarter, quarter + quarter/3, "", api.ErrFit},
		{offBeat, at("4/4", 0, 28350+quarter), 0, 28350, "", api.ErrTick}, {offBeat, at("4/4", 0, 28350+quarter), 14175, 14175, "", api.ErrTick}, {offBeat, at("4/4", 0, 28350+quarter), 0, 28350 + quarter, "m", api.OK},
		{"C4:8 C4:4 " + repeated(126, "r:32"), at("4/4", 0, 138*whole/32), eighth, 3 * eighth, "", api.ErrLimit}, // two rests instead of one note
		{"C4:8 C4:4 " + repeated(125, "r:32"), at("4/4", 0, 137*whole/32), eighth, 3 * eighth, "C4:8 r:8 r:8 " + repeated(125, "r:32"), api.OK},
		{"C4:8 C4:4 " + repeated(126, "r:32"), at("4/4", 0, 138*whole/32), finest, eighth, "", api.ErrLimit},
	} {
		v, e := Erase(read(c.text), c.p, c.from, c.to)
		c.compare(t, "Erase", v, e)
	}
}

// P12.9
func TestSimplify(t *testing.T) {
	triplet := "3/2( r:8 r:8 r:8 )"
	for _, c := range []result{
		{"", four, 0, 0, "", api.OK}, {"m@7^f", four, 0, 0, "m@7^f", api.OK}, {"C5:1@7", four, 0, 0, "C5:1@7", api.OK},
		{"C5~:4 C5~:4 C5:2", four, 0, 0, "C5:1", api.OK}, {"C5~:4@1 C5~:4@2 C5~:2@3", four, 0, 0, "C5~:1@1", api.OK},
		{"r:4@1 r:4@2 r:4@3 r:4@4", four, 0, 0, "r:1@1", api.OK}, {"s:4 s:8 s:8 s:2", four, 0, 0, "s:1", api.OK}, {"r:4 s:4 r:4 r:4", four, 0, 0, "r:4 s:4 r:2", api.OK},
		{"D4:4 r:8@1 r:8@2 r:8@3 r:8@4 r:4@5", four, 0, 0, "D4:4 r:4@1 r:2@2", api.OK},
		{"D4:4 C5~:8@1 C5~:8@2 C5~:4@3 C5:4@4", four, 0, 0, "D4:4 C5~:4@1 C5:2@2", api.OK},
		{"D4:4 C5~:4@1 C5:4@2 r:4", four, 0, 0, "D4:4 C5~:4@1 C5:4@2 r:4", api.OK}, // two notes cannot be fewer
		{"C5~!+E5~:4@1^aftgluj C5~+E5~:4@2u C5+E5~:2@3u", four, 0, 0, "C5!+E5~:1@1^aftgluj", api.OK},
		{"C5~+E5:4 C5+E5:4 r:2", four, 0, 0, "C5~+E5:4 C5+E5:4 r:2", api.OK}, {"C5~+E5~:4 C5:4 r:2", four, 0, 0, "C5~+E5~:4 C5:4 r:2", api.OK}, {"C5~:4 C5+E5:4 r:2", four, 0, 0, "C5~:4 C5+E5:4 r:2", api.OK},
		{"C5~:4 B#4:4 r:2", four, 0, 0, "C5~:4 B#4:4 r:2", api.OK}, {"C5:4 C5:4 C5:2", four, 0, 0, "C5:4 C5:4 C5:2", api.OK},
		{"C5~:2 C5!:2", four, 0, 0, "C5~:2 C5!:2", api.OK}, {"C5~:2 C5:2^", four, 0, 0, "C5~:2 C5:2^", api.OK}, {"C5~:2 C5:2a", four, 0, 0, "C5~:2 C5:2a", api.OK}, {"C5~:2 C5:2f", four, 0, 0, "C5~:2 C5:2f", api.OK},
		{"C5~:2 C5:2t", four, 0, 0, "C5~:2 C5:2t", api.OK}, {"C5~:2 C5:2g", four, 0, 0, "C5~:2 C5:2g", api.OK}, {"C5~:2 C5:2l", four, 0, 0, "C5~:2 C5:2l", api.OK}, {"C5~:2 C5:2j", four, 0, 0, "C5~:2 C5:2j", api.OK},
		{"C5~:2 C5:2u", four, 0, 0, "C5~:2 C5:2u", api.OK}, {"C5~:2u C5:2", four, 0, 0, "C5~:2u C5:2", api.OK}, {"C5~:2u C5:2d", four, 0, 0, "C5~:2u C5:2d", api.OK}, {"C5~:2d C5:2d", four, 0, 0, "C5:1d", api.OK},
		{"C5~:4 C5~:4f C5~:4 C5:4", four, 0, 0, "C5~:4 C5~:4f C5:2", api.OK}, {"C5~:4 C5~:4 C5~:4f C5:4", four, 0, 0, "C5~:2 C5:2f", api.OK},
		{"C5~:4u C5~:4u C5~:4d C5:4d", four, 0, 0, "C5~:2u C5:2d", api.OK},
		{"r:4f r:4 r:4 r:4", four, 0, 0, "r:4f r:4 r:2", api.OK}, {"r:4 r:4f r:4@1 r:4@2", four, 0, 0, "r:4 r:4f r:2@1", api.OK}, {"r:4 r:4^ r:4@1 r:4@2", four, 0, 0, "r:4 r:4^ r:2@1", api.OK}, {"s:2 s:2f", four, 0, 0, "s:2 s:2f", api.OK},
		{"r:8 r:8 " + triplet + " r:8@1 r:8@2 r:4@3 ", four, 0, 0, "r:4 " + triplet + " r:2@1", api.OK}, {triplet + " " + triplet + " r:2", four, 0, 0, triplet + " " + triplet + " r:2", api.OK},
		{"r:4 " + triplet + " " + "3/2( C5~:8 C5~:8 C5~:8 ) C5:4", four, 0, 0, "r:4 " + triplet + " " + "3/2( C5~:8 C5~:8 C5~:8 ) C5:4", api.OK},
		{"r:8 r:8 r:8 r:8 r:8 r:8", in("6/8"), 0, 0, "r:2.", api.OK}, {"r:8 r:8 r:8 r:8 C4:4", in("6/8"), 0, 0, "r:4. r:8 C4:4", api.OK},
		{"C5~:4 C5:4", at("4/4", quarter, half), 0, 0, "C5~:4 C5:4", api.OK}, {"C5~:4 C5:4", at("4/4", half, half), 0, 0, "C5:2", api.OK},
		{"C5~:4 C5:4", at("4/4", 1, half), 0, 0, "C5~:4 C5:4", api.OK}, {"C5~:4 C5:4", at("4/4", half+finest-1, half), 0, 0, "C5~:4 C5:4", api.OK},
		{"C5~:256... C5:256... r:4 r:4", at("4/4", 0, 28350+half), 0, 0, "C5~:256... C5:256... r:4 r:4", api.OK},
		{"C4:4", four, 0, 0, "", api.ErrLength}, {"m m", four, 0, 0, "", api.ErrKind},
	} {
		v, e := Simplify(read(c.text), c.p)
		c.compare(t, "Simplify", v, e)
	}
}

// P12.5 to P12.9: the errors of a place come first, and then those of Check.
func TestPlace(t *testing.T) {
	functions := map[string]func(v api.Voice, p Place) (api.Voice, api.Errno){
		"Divide":   func(v api.Voice, p Place) (api.Voice, api.Errno) { return Divide(v, p, -1) },
		"Cut":      func(v api.Voice, p Place) (api.Voice, api.Errno) { return Cut(v, p, -1, -2) },
		"Put":      func(v api.Voice, p Place) (api.Voice, api.Errno) { return Put(v, p, -1, -2, read("m")) },
		"Erase":    func(v api.Voice, p Place) (api.Voice, api.Errno) { return Erase(v, p, -1, -2) },
		"Simplify": Simplify,
	}
	bad := api.Voice{Events: []api.Event{{Kind: 5}}}
	for name, f := range functions {
		for i, c := range []struct {
			p Place
			e api.Errno
		}{
			{Place{}, api.ErrRange}, {Place{Metre: api.Metre{Count: 4, Unit: 3}, Offset: -1}, api.ErrValue}, {Place{Metre: api.Metre{Count: 4, Unit: 4, Groups: [6]int{4}}, Length: -1}, api.ErrMetre},
			{at("4/4", -1, quarter), api.ErrRange}, {at("4/4", MaxLength+1, quarter), api.ErrRange}, {at("4/4", 0, 0), api.ErrRange}, {at("4/4", 0, -1), api.ErrRange}, {at("4/4", 0, MaxLength+1), api.ErrRange},
			{at("4/4", math.MinInt, math.MaxInt), api.ErrRange}, {at("4/4", math.MaxInt, quarter), api.ErrRange}, {at("4/4", MaxLength, MaxLength), api.ErrKind},
		} {
			if v, e := f(bad, c.p); e != c.e || !same(v, api.Voice{}) {
				t.Errorf("%d: %s(%v) = %s, %d; want %d", i, name, c.p, write(v), e, c.e)
			}
		}
		for want, l := range wrong() {
			for i, v := range l {
				if out, e := f(v, at("4/4", 0, quarter)); e != want || !same(out, api.Voice{}) {
					t.Errorf("%s of the voice %d with the error %d: %s, %d", name, i, want, write(out), e)
				}
			}
		}
	}
	far := at("4/4", MaxLength, MaxLength)
	if v, e := Divide(read("m"), far, whole); e != api.OK || Check(v, MaxLength) != api.OK {
		t.Errorf("Divide in the last place = %s, %d", write(v), e)
	}
}

// P12.10
func TestEqual(t *testing.T) {
	text := "C4~+E4!:4@1 3/2( D4:8@2gl E4:8@3 F4~:8@4 ) G4~:2@5f"
	empty := api.Voice{Events: []api.Event{}, Tuplets: []api.Tuplet{}}
	if !Equal(empty, api.Voice{}) || !Equal(read(text), read(text)) || !same(Clone(read(text)), read(text)) || !same(Clone(empty), empty) {
		t.Error("equal voices differ")
	}
	for i, change := range []func(v *api.Voice){
		func(v *api.Voice) { v.Events[0].ID.Number++ }, func(v *api.Voice) { v.Events[4].Dynamic-- }, func(v *api.Voice) { v.Events[0].Heads[1].Show-- }, func(v *api.Voice) { v.Events[1].Graces[0].Slash = true },
		func(v *api.Voice) { v.Events[1].Lyrics[0].Text = "lo" }, func(v *api.Voice) { v.Events = v.Events[:4] }, func(v *api.Voice) { v.Events = append(v.Events, api.Event{}) },
		func(v *api.Voice) { v.Tuplets = nil }, func(v *api.Voice) { v.Tuplets[0].Count-- }, func(v *api.Voice) { v.Tuplets = append(v.Tuplets, api.Tuplet{}) },
	} {
		a, b := read(text), read(text)
		change(&b)
		if Equal(a, b) || Equal(b, a) || !same(Clone(b), b) {
			t.Errorf("%d: Equal(%s, %s)", i, write(a), write(b))
		}
	}
}

// P12.11: results share no memory with arguments, and notes none with one another.
func TestIndependent(t *testing.T) {
	text := "C4~+E4!:4@1gl C4+E4:4 3/2( D4:8gl E4:8 F4~:8 ) G4~+A4:4@5gl"
	x := read("3/2( A4~:8gl A4:8 A4~:8gl )")
	functions := map[string]func(v api.Voice) (api.Voice, api.Errno){
		"Clone":        func(v api.Voice) (api.Voice, api.Errno) { return Clone(v), api.OK },
		"Divide":       func(v api.Voice) (api.Voice, api.Errno) { return Divide(v, four, whole-eighth) },
		"Divide at 0":  func(v api.Voice) (api.Voice, api.Errno) { return Divide(v, four, 0) },
		"Cut":          func(v api.Voice) (api.Voice, api.Errno) { return Cut(v, four, eighth, whole) },
		"Put":          func(v api.Voice) (api.Voice, api.Errno) { return Put(v, four, quarter, half, x) },
		"Put nothing":  func(v api.Voice) (api.Voice, api.Errno) { return Put(v, four, half, half, api.Voice{}) },
		"Erase":        func(v api.Voice) (api.Voice, api.Errno) { return Erase(v, four, 0, quarter) },
		"Simplify":     func(v api.Voice) (api.Voice, api.Errno) { return Simplify(v, four) },
		"Simplify not": func(v api.Voice) (api.Voice, api.Errno) { return Simplify(v, at("4/4", 1, whole)) },
		"Sounding": func(v api.Voice) (api.Voice, api.Errno) {
			return api.Voice{Events: []api.Event{{Heads: Sounding(v, whole, 0)}}, Tuplets: make([]api.Tuplet, 1)}, api.OK
		},
		"Notes": func(v api.Voice) (api.Voice, api.Errno) {
			l, e := Notes(v.Events[0], four.Metre, eighth, whole)
			return api.Voice{Events: l, Tuplets: make([]api.Tuplet, 1)}, e
		},
	}
	for name, f := range functions {
		v := read(text)
		v.Events = append(make([]api.Event, 0, 200), v.Events...)
		out, e := f(v)
		if e != api.OK || len(out.Events) == 0 || len(out.Tuplets) == 0 {
			t.Fatalf("%s: %s, %d", name, write(out), e)
		}
		before := Clone(out)
		for i := range out.Events {
			for k := range out.Events[i].Heads {
				out.Events[i].Heads[k].Pitch = api.Pitch{Octave: i, Step: k}
			}
			for k := range out.Events[i].Graces {
				out.Events[i].Graces[k] = api.Grace{}
			}
			for k := range out.Events[i].Lyrics {
				out.Events[i].Lyrics[k] = api.Syllable{}
			}
			if i+1 < len(out.Events) && !slices.Equal(out.Events[i+1].Heads, before.Events[i+1].Heads) {
				t.Errorf("%s: events share memory", name)
			}
		}
		for i := range out.Events {
			out.Events[i].Kind = 0
		}
		for i := range out.Tuplets {
			out.Tuplets[i] = api.Tuplet{}
		}
		if !same(v, read(text)) || v.Events[:200][6].Kind != 0 || !same(x, read("3/2( A4~:8gl A4:8 A4~:8gl )")) {
			t.Errorf("%s shares memory with its argument", name)
		}
	}
}
