package parser

import (
	"math/rand"
	"reflect"
	"slices"
	"strconv"
	"strings"
	"testing"

	"hemiola/api"
	"hemiola/check"
	"hemiola/clef"
	"hemiola/duration"
	"hemiola/lexer"
	"hemiola/metre"
	"hemiola/pitch"
	"hemiola/score"
)

// An item is a token, or a composed one, of a text. If one of the others stands in its place, there is the error e at it.
type item struct {
	text   string
	joined bool // to the item before
	others []string
	e      api.Errno
}

// A writer writes the text of what it makes up.
type writer struct {
	*rand.Rand
	items    []item
	detached bool
	explicit bool       // all ids are written
	whim     *rand.Rand // which ids are written although they need not be
	last     api.ID
	known    map[int]int
}

func newWriter(seed int64) *writer {
	return &writer{Rand: rand.New(rand.NewSource(seed)), whim: rand.New(rand.NewSource(seed)), known: map[int]int{}}
}

// chance is true once in n times.
func (w *writer) chance(n int) bool { return w.Intn(n) == 0 }

// put writes items that stand for themselves, and word one of which there are others that are none.
func (w *writer) put(texts ...string) {
	for _, s := range texts {
		w.items = append(w.items, item{text: s})
	}
}

func (w *writer) word(text string, e api.Errno, others ...string) {
	w.items = append(w.items, item{text: text, others: others, e: e})
}

// number writes a number within limits, often one of them.
func (w *writer) number(low, high int) int {
	n := low + w.Intn(high-low+1)
	switch w.Intn(6) {
	case 0:
		n = low
	case 1:
		n = high
	}
	others := []string{strconv.Itoa(high + 1), "999999999999999"}
	if low > 0 {
		others = append(others, strconv.Itoa(low-1))
	}
	zeros := ""
	if w.chance(8) {
		zeros = "00"
	}
	w.word(zeros+strconv.Itoa(n), api.ErrRange, others...)
	return n
}

// integer writes a number from -limit to limit.
func (w *writer) integer(limit int) int {
	if w.chance(2) {
		w.put("-")
		return -w.number(0, limit)
	}
	return w.number(0, limit)
}

func (w *writer) text() string {
	s := []string{"", "la", "é\"\\", "\n\x00%", "score", strings.Repeat("long ", 60)}[w.Intn(6)]
	quoted, _ := lexer.Quote(s)
	w.put(quoted)
	return s
}

// id writes an id, or none.
func (w *writer) id() api.ID {
	next := api.ID{Site: w.last.Site, Number: w.last.Number + 1}
	if w.detached {
		next = api.ID{}
	}
	if w.chance(6) {
		next = w.written()
	} else if w.explicit && !w.detached || w.whim.Intn(6) == 0 && !w.detached {
		w.put("@", strconv.Itoa(next.Site), ".", strconv.Itoa(next.Number))
	}
	w.last = next
	w.known[next.Site] = max(w.known[next.Site], next.Number)
	return next
}

func (w *writer) written() api.ID {
	w.put("@")
	site := w.number(0, 99)
	w.put(".")
	x := api.ID{Site: site, Number: w.number(1, 1<<30)}
	if x.Number > 1<<29 {
		// Further ids have to follow.
		x.Number = 1 + w.Intn(1000)
		w.items[len(w.items)-1].text = strconv.Itoa(x.Number)
	}
	return x
}

// choice writes the word with a number from 1 on.
func (w *writer) choice(list string, e api.Errno, others ...string) int {
	words := strings.Fields(list)
	n := w.Intn(len(words))
	w.word(words[n], e, others...)
	return n + 1
}

func (w *writer) clef() int {
	n := 1 + w.Intn(clef.NumClefs)
	name, _ := clef.Name(n)
	w.word(name, api.ErrUnknown, "violin", "R", "trebles", "B")
	return n
}

func (w *writer) pitch() api.Pitch {
	l, _ := pitch.Enharmonics(w.Intn(128))
	x := l[w.Intn(len(l))]
	name, _ := pitch.Name(x)
	w.word(name, api.ErrPitch, "C", "C10", "Bx4", "F###4", "G-", "B9", "Cbb-1")
	return x
}

func (w *writer) value() api.Value {
	l := duration.All()
	x := l[w.Intn(len(l))]
	text, _ := duration.Text(x)
	w.word(text, api.ErrValue, "0", "3", "b....", "04", "512", "16....")
	return x
}

func (w *writer) metre() api.Metre {
	x := api.Metre{Count: 1 + w.Intn(64), Unit: 1 << w.Intn(7)}
	if w.chance(2) {
		x.Count = 0
		for i := range 2 + w.Intn(5) {
			x.Groups[i] = 1 + w.Intn(9)
			x.Count += x.Groups[i]
		}
	}
	text, _ := metre.Text(x)
	w.word(text, api.ErrMetre, "4", "3/3", "0/4", "65/1", "2+2", "2+2/4/", "1+1+1+1+1+1+1/4")
	return x
}

// times calls a function a few times.
func (w *writer) times(low, high int, f func()) {
	for range low + w.Intn(high-low+1) {
		f()
	}
}

func (w *writer) score() api.Score {
	w.put("score")
	x := api.Score{Title: w.text()}
	if x.Written = w.chance(2); x.Written {
		w.put("written")
	}
	last := w.chance(3)
	if last {
		w.put("last")
		w.times(1, 3, func() { x.Last = append(x.Last, w.written()) })
	}
	w.times(0, 3, func() { x.Parts = append(x.Parts, w.part()) })
	m := api.Measure{Metre: api.Metre{Count: 4, Unit: 4}}
	w.times(0, 3, func() {
		m = w.measure(m.Metre, m.Fifths)
		x.Measures = append(x.Measures, m)
	})
	w.times(0, 3, func() { x.Spanners = append(x.Spanners, w.spanner()) })
	for site := range 100 {
		if n := w.known[site]; n > 0 && !last {
			x.Last = append(x.Last, api.ID{Site: site, Number: n})
		}
	}
	return x
}

func (w *writer) part() api.Part {
	w.put("part")
	x := api.Part{ID: w.id()}
	x.Name = w.text()
	if w.chance(2) {
		w.put("transpose")
		x.Transpose.Steps = w.integer(140)
		x.Transpose.Semitones = w.integer(140)
	}
	w.times(0, 3, func() {
		w.put("staff")
		y := api.Staff{ID: w.id()}
		y.Clef = w.clef()
		x.Staves = append(x.Staves, y)
	})
	return x
}

func (w *writer) spanner() api.Spanner {
	x := api.Spanner{Kind: w.choice("slur crescendo diminuendo octaveup octavedown pedal trill", api.ErrSyntax, "slurs", "turn", "Slur", "8", "(", `"slur"`)}
	x.ID = w.id()
	w.put("(")
	x.From = w.written()
	x.To = w.written()
	w.put(")")
	return x
}

func (w *writer) measure(m api.Metre, fifths int) api.Measure {
	w.put("measure")
	x := api.Measure{ID: w.id(), Metre: m, Fifths: fifths}
	option := func(word string, read func()) {
		if w.chance(3) {
			w.put(word)
			read()
		}
	}
	option("metre", func() { x.Metre = w.metre() })
	option("length", func() { x.Length = w.number(1, 1<<42) })
	option("key", func() { x.Fifths = w.integer(7) })
	option("repeat", func() { x.RepeatStart = true })
	option("times", func() { x.RepeatEnd = w.number(2, 8) })
	option("endings", func() { x.Endings = w.number(1, 255) })
	option("jump", func() {
		x.Jump = w.choice("dacapo dacapofine dacapocoda dalsegno dalsegnofine dalsegnocoda", api.ErrUnknown, "jump", "coda", "Dacapo")
	})
	option("segno", func() { x.Labels += 1 })
	option("coda", func() { x.Labels += 2 })
	option("fine", func() { x.Labels += 4 })
	option("tocoda", func() { x.Labels += 8 })
	option("swing", func() { x.Swing = w.number(1, 100) })
	option("break", func() { x.Break = w.choice("system page never", api.ErrUnknown, "line", "break") })
	option("mark", func() { x.Rehearsal = w.text() })
	for w.chance(3) {
		w.put("tempo")
		y := api.TempoMark{At: w.number(0, 1<<42)}
		y.Micros = w.number(1, 60000000)
		if y.Ramp = w.chance(2); y.Ramp {
			w.put("ramp")
		}
		x.Tempi = append(x.Tempi, y)
	}
	w.put("{")
	x.Cells = append(x.Cells, w.cell())
	w.times(0, 2, func() {
		w.put("/")
		x.Cells = append(x.Cells, w.cell())
	})
	w.put("}")
	return x
}

func (w *writer) cell() api.Cell {
	var x api.Cell
	for w.chance(3) {
		w.put("clef")
		y := api.ClefChange{At: w.number(0, 1<<42)}
		y.Clef = w.clef()
		x.Clefs = append(x.Clefs, y)
	}
	x.Voices = append(x.Voices, w.voice())
	w.times(0, 2, func() {
		w.put(";")
		x.Voices = append(x.Voices, w.voice())
	})
	if len(x.Voices) == 1 && len(x.Voices[0].Events) == 0 {
		x.Voices = nil
	}
	return x
}

func (w *writer) voice() api.Voice {
	var x api.Voice
	w.times(0, 3, func() { w.element(&x, 0) })
	return x
}

// element writes an event, or a tuplet at a depth.
func (w *writer) element(x *api.Voice, depth int) {
	if depth > 3 || !w.chance(3) {
		x.Events = append(x.Events, w.event())
		return
	}
	w.put("(")
	n := len(x.Tuplets)
	x.Tuplets = append(x.Tuplets, api.Tuplet{First: len(x.Events), Actual: w.number(1, 32)})
	w.put(":")
	x.Tuplets[n].Normal = w.number(1, 32)
	w.times(1, 3, func() { w.element(x, depth+1) })
	x.Tuplets[n].Count = len(x.Events) - x.Tuplets[n].First
	w.put(")")
}

func (w *writer) event() api.Event {
	x := api.Event{ID: w.id()}
	if w.chance(4) {
		w.put("grace", "(")
		w.times(1, 3, func() {
			y := api.Grace{Slash: w.chance(2)}
			if y.Slash {
				w.put("/")
			}
			y.Pitch = w.pitch()
			w.put(":")
			y.Log = 1 + w.Intn(6)
			w.word(strconv.Itoa(1<<y.Log), api.ErrRange, "0", "1", "3", "63", "128", "140737488355328")
			x.Graces = append(x.Graces, y)
		})
		w.put(")")
	}
	w.body(&x)
	if w.chance(3) {
		w.put("[")
		w.marks(&x)
		w.put("]")
	}
	for w.chance(3) {
		x.Lyrics = append(x.Lyrics, w.syllable())
	}
	return x
}

func (w *writer) body(x *api.Event) {
	switch x.Kind = 1 + w.Intn(4); x.Kind {
	case api.MeasureRest:
		w.put("R")
		return
	case api.Rest:
		w.put("r")
	case api.Skip:
		w.put("s")
	case api.Chord:
		if w.chance(2) {
			x.Heads = append(x.Heads, w.head())
			break
		}
		w.put("<")
		w.times(1, 4, func() { x.Heads = append(x.Heads, w.head()) })
		w.put(">")
	}
	w.put(":")
	x.Value = w.value()
}

func (w *writer) head() api.Head {
	x := api.Head{Pitch: w.pitch(), Tied: w.chance(3), Show: w.Intn(3)}
	if x.Tied {
		w.put("~")
	}
	if x.Show > 0 {
		w.put([]string{"", "!", "?"}[x.Show])
	}
	return x
}

// marks writes at least one of the words in brackets.
func (w *writer) marks(x *api.Event) {
	first := len(w.items)
	for i, text := range strings.Fields("staccato tenuto accent marcato fermata") {
		if w.chance(5) {
			x.Articulations |= 1 << i
			w.word(text, api.ErrUnknown, "loud", "slur", "Trill", "treble")
		}
	}
	w.group(&x.Ornament, "trill mordent inverse turn")
	w.group(&x.Dynamic, "ppp pp p mp mf f ff fff sfz")
	w.group(&x.Stem, "up down")
	w.group(&x.Beam, "apart join")
	if len(w.items) == first {
		x.Articulations = api.Fermata
		w.put("fermata")
	}
}

// group writes one of the words of a list, or none.
func (w *writer) group(field *int, list string) {
	if w.chance(2) {
		*field = w.choice(list, api.ErrUnknown, "loud", "slur", "R", "C4")
	}
}

func (w *writer) syllable() api.Syllable {
	if w.chance(4) {
		w.put("_")
		return api.Syllable{Link: api.Extender}
	}
	x := api.Syllable{Text: w.text(), Link: w.Intn(3)}
	if x.Link > 0 {
		w.items = append(w.items, item{text: []string{"", "-", "_"}[x.Link], joined: true})
	}
	return x
}

// between returns what may stand between two items.
func between(r *rand.Rand, a, b item) string {
	if b.joined {
		return ""
	}
	// Some would become one token, and a syllable and a sign of its own another syllable.
	isDigit := func(c byte) bool { return c >= '0' && c <= '9' }
	isWord := func(c byte) bool { return c == '_' || isDigit(c) || c >= 'A' && c <= 'Z' || c >= 'a' && c <= 'z' }
	first, last := b.text[0], a.text[len(a.text)-1]
	apart := isWord(last) && isWord(first) && (!isDigit(last) || isDigit(first) || lexer.IsWord(a.text)) || last == '"' && (first == '_' || first == '-')
	if !apart && r.Intn(2) == 0 {
		return ""
	}
	return []string{" ", "\n", "\t\r", " % \"\x00`\n ", "%\n"}[r.Intn(5)]
}

// render returns a text of items, and the line and the column of each of them and of the end.
func render(r *rand.Rand, l []item) (string, [][2]int) {
	var b strings.Builder
	var places [][2]int
	place := func() {
		s := b.String()
		places = append(places, [2]int{1 + strings.Count(s, "\n"), len(s) - strings.LastIndex(s, "\n")})
	}
	for i, x := range l {
		if i > 0 {
			b.WriteString(between(r, l[i-1], x))
		}
		place()
		b.WriteString(x.text)
	}
	place()
	return b.String(), places
}

// P19.1, P19.2, P19.5: random scores, with different blanks and ids, and with something wrong.
func TestReadSome(t *testing.T) {
	for seed := range int64(2000) {
		w := newWriter(seed)
		want := w.score()
		s, _ := render(w.Rand, w.items)
		x, line, column, e := Read(s)
		if !score.Equal(x, want) || line != 0 || column != 0 || e != api.OK {
			t.Fatalf("Read(%q) = %v, %d, %d, %d; want %v", s, x, line, column, e, want)
		}
		full := newWriter(seed)
		full.explicit = true
		if !score.Equal(full.score(), want) {
			t.Fatal("the writer is wrong")
		}
		s, _ = render(w.Rand, full.items)
		if x, _, _, e := Read(s); !score.Equal(x, want) || e != api.OK {
			t.Fatalf("Read(%q) = %v, %d; want %v", s, x, e, want)
		}
		ruled(t, w.Rand, w.items, want)
		spoilt(t, w.Rand, w.items)
	}
}

// ruled checks Parse for the text of a score, which is hardly ever valid.
func ruled(t *testing.T, r *rand.Rand, l []item, want api.Score) {
	t.Helper()
	s, places := render(r, l)
	x, line, column, e := Parse(s)
	if check.Valid(want) {
		if !score.Equal(x, want) || line != 0 || column != 0 || e != api.OK {
			t.Fatalf("Parse(%q) = %v, %d, %d, %d", s, x, line, column, e)
		}
	} else if !reflect.DeepEqual(x, api.Score{}) || [2]int{line, column} != places[len(l)] || e != api.ErrRule {
		t.Fatalf("Parse(%q) = %v, %d, %d, %d; want %v", s, x, line, column, e, places[len(l)])
	}
}

// spoilt puts wrong items into a text.
func spoilt(t *testing.T, r *rand.Rand, l []item) {
	t.Helper()
	for range 4 {
		i := r.Intn(len(l))
		if len(l[i].others) == 0 {
			continue
		}
		c := slices.Clone(l)
		c[i].text = l[i].others[r.Intn(len(l[i].others))]
		s, places := render(r, c)
		x, line, column, e := Read(s)
		if !reflect.DeepEqual(x, api.Score{}) || [2]int{line, column} != places[i] || e != l[i].e {
			t.Fatalf("%q: %s for %s is %d, %d, %d; want %v, %d", s, c[i].text, l[i].text, line, column, e, places[i], l[i].e)
		}
	}
}

// P19.3
func TestVoiceSome(t *testing.T) {
	for seed := range int64(1500) {
		w := newWriter(seed)
		w.detached = true
		voice := w.voice()
		s, _ := render(w.Rand, w.items)
		if x, line, column, e := Voice(s); !sameVoice(x, voice) || line != 0 || column != 0 || e != api.OK {
			t.Fatalf("Voice(%q) = %v, %d, %d, %d; want %v", s, x, line, column, e, voice)
		}
		w.items = nil
		event := w.event()
		s, _ = render(w.Rand, w.items)
		if x, line, column, e := Event(s); !sameVoice(api.Voice{Events: []api.Event{x}}, api.Voice{Events: []api.Event{event}}) || line != 0 || column != 0 || e != api.OK {
			t.Fatalf("Event(%q) = %v, %d, %d, %d; want %v", s, x, line, column, e, event)
		}
	}
}

// sameVoice reports whether two voices are equal.
func sameVoice(a, b api.Voice) bool {
	in := func(v api.Voice) api.Score {
		return api.Score{Measures: []api.Measure{{Cells: []api.Cell{{Voices: []api.Voice{v}}}}}}
	}
	return score.Equal(in(a), in(b))
}

// P1: any text has a result, and Parse refuses no more than Read but for the rules.
func FuzzRead(f *testing.F) {
	for seed := range int64(5) {
		w := newWriter(seed)
		w.score()
		s, _ := render(w.Rand, w.items)
		f.Add(s)
	}
	f.Add(start + "measure { C4~:1 grace (/C4:8) <C4 E4>:2. [p] \"a\"- } slur (@0.4 @0.5)")
	f.Fuzz(func(t *testing.T, s string) {
		x, line, column, e := Read(s)
		if e == api.OK && (line != 0 || column != 0) || e != api.OK && (line < 1 || column < 1 || !reflect.DeepEqual(x, api.Score{})) {
			t.Fatalf("Read(%q) = %v, %d, %d, %d", s, x, line, column, e)
		}
		y, l, c, f := Parse(s)
		switch {
		case f == api.ErrRule && e == api.OK && !check.Valid(x) && reflect.DeepEqual(y, api.Score{}):
		case f != e || l != line || c != column || !score.Equal(x, y):
			t.Fatalf("Parse(%q) = %v, %d, %d, %d", s, y, l, c, f)
		}
		Event(s)
		Voice(s)
	})
}
