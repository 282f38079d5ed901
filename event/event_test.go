package event

import (
	"math"
	"math/rand"
	"slices"
	"strings"
	"testing"

	"hemiola/api"
	"hemiola/duration"
	"hemiola/pitch"
)

var (
	quarter = api.Value{Log: 2}
	id      = api.ID{Site: 3, Number: 7}
	far     = []int{math.MinInt, -1 << 32, -1, 1 << 32, math.MaxInt}
)

// named is the pitch with a name, or one that does not exist for "?".
func named(name string) api.Pitch {
	if name == "?" {
		return api.Pitch{Step: 7}
	}
	p, _, e := pitch.Parse(name)
	if e != api.OK {
		panic(name)
	}
	return p
}

// heads reads heads: a name, with "~" after it if the head is tied, and with "!", "()" or "*" if Show is 1, 2 or wrong.
func heads(names string) []api.Head {
	var l []api.Head
	for _, s := range strings.Fields(names) {
		h := api.Head{Tied: strings.Contains(s, "~")}
		switch {
		case strings.Contains(s, "!"):
			h.Show = api.ShowAlways
		case strings.Contains(s, "()"):
			h.Show = api.ShowParentheses
		case strings.Contains(s, "*"):
			h.Show = 3
		}
		h.Pitch = named(strings.TrimRight(s, "~!()*"))
		l = append(l, h)
	}
	return l
}

// notes is a quarter note with heads.
func notes(names string) api.Event {
	return api.Event{ID: id, Kind: api.Chord, Value: quarter, Heads: heads(names)}
}

// full is a chord that uses everything that chords use.
func full() api.Event {
	return api.Event{
		ID: id, Kind: api.Chord, Value: api.Value{Log: 3, Dots: 1}, Heads: heads("C4~ E4! Bb4()"),
		Graces:        []api.Grace{{Pitch: named("D5"), Log: 3, Slash: true}, {Pitch: named("C5"), Log: 4}},
		Articulations: 31, Ornament: api.Turn, Dynamic: api.DynamicSfz,
		Lyrics: []api.Syllable{{}, {Text: "lo", Link: api.Hyphen}, {Link: api.Extender}, {Text: "ve\u00e9"}},
		Stem:   api.StemDown, Beam: api.BeamJoin,
	}
}

func repeated[T any](n int, x T) []T {
	var l []T
	for range n {
		l = append(l, x)
	}
	return l
}

// P11.1
func TestCheckHeads(t *testing.T) {
	eleven := "C4 D4 E4 F4 G4 A4 B4 C5 D5 E5 F5"
	for _, c := range []struct {
		names string
		e     api.Errno
	}{
		{"", api.ErrShort}, {"C4", api.OK}, {"C4 D4", api.OK}, {"C4~ E4!~ Bb4()", api.OK},
		{eleven[:len(eleven)-3], api.OK}, {eleven, api.ErrLimit}, {eleven + " ?", api.ErrLimit}, {eleven + " C4", api.ErrLimit},
		{"C-1 G9", api.OK}, {"?", api.ErrPitch}, {"C4 ?", api.ErrPitch}, {"?*", api.ErrPitch},
		{"C4*", api.ErrRange}, {"C4 D4*", api.ErrRange}, {"D4 C4*", api.ErrRange}, {"D4 ?*", api.ErrPitch},
		{"D4 C4", api.ErrOrder}, {"C4 C4", api.ErrOrder}, {"B#3 C4", api.ErrOrder}, {"C4 B#3", api.ErrOrder}, {"C4 Db4 C#4", api.ErrOrder},
		{"Cb4 B#3", api.OK}, // the order is that of the numbers, not that of the staff positions
		{"D4 C4 ?", api.ErrOrder}, {"? D4 C4", api.ErrPitch}, {"C4* D4 C4", api.ErrRange}, {"D4 C4 E4*", api.ErrOrder},
	} {
		if e := CheckHeads(heads(c.names)); e != c.e {
			t.Errorf("CheckHeads(%s) = %d; want %d", c.names, e, c.e)
		}
	}
	for _, p := range []api.Pitch{{Alter: -1, Octave: -1}, {Step: 5, Octave: 9}, {Step: -1, Octave: 4}, {Alter: 3, Octave: 4}, {Octave: 10}, {Octave: -2}} {
		if e := CheckHeads([]api.Head{{Pitch: p}}); e != api.ErrPitch {
			t.Errorf("CheckHeads(%v) = %d", p, e)
		}
	}
	for _, show := range append([]int{3}, far...) {
		if e := CheckHeads([]api.Head{{Pitch: named("C4"), Show: show}}); e != api.ErrRange {
			t.Errorf("CheckHeads with Show %d = %d", show, e)
		}
	}
}

// P11.1
func TestCheckGraces(t *testing.T) {
	good := api.Grace{Pitch: named("C4"), Log: 3}
	for i, c := range []struct {
		l []api.Grace
		e api.Errno
	}{
		{nil, api.OK}, {[]api.Grace{}, api.OK}, {[]api.Grace{good}, api.OK}, {repeated(8, good), api.OK}, {repeated(9, good), api.ErrLimit}, {make([]api.Grace, 9), api.ErrLimit},
		{[]api.Grace{{Pitch: named("C4"), Log: 1, Slash: true}, {Pitch: named("A3"), Log: 6}}, api.OK},
		{[]api.Grace{{Pitch: named("C4")}}, api.ErrRange}, {[]api.Grace{good, {Pitch: named("C4"), Log: 7}}, api.ErrRange}, {[]api.Grace{{Pitch: named("C4"), Log: -1}}, api.ErrRange},
		{[]api.Grace{{Pitch: named("?"), Log: 3}}, api.ErrPitch}, {[]api.Grace{good, {Pitch: named("?")}}, api.ErrPitch},
		{[]api.Grace{{Pitch: named("C4")}, {Pitch: named("?"), Log: 3}}, api.ErrRange},
	} {
		if e := CheckGraces(c.l); e != c.e {
			t.Errorf("%d: CheckGraces(%v) = %d; want %d", i, c.l, e, c.e)
		}
	}
}

// P11.1
func TestCheckLyrics(t *testing.T) {
	long := strings.Repeat("x", 256)
	la := api.Syllable{Text: "la"}
	for i, c := range []struct {
		l []api.Syllable
		e api.Errno
	}{
		{nil, api.OK}, {[]api.Syllable{}, api.OK}, {repeated(4, la), api.OK}, {repeated(5, la), api.ErrLimit}, {repeated(5, api.Syllable{Link: 9}), api.ErrLimit},
		{[]api.Syllable{{Text: "a", Link: api.Hyphen}}, api.OK}, {[]api.Syllable{{Text: "a", Link: api.Extender}}, api.OK}, {[]api.Syllable{{Link: api.Extender}}, api.OK},
		{[]api.Syllable{{Link: api.Hyphen}}, api.ErrFormat}, {[]api.Syllable{{Link: api.Hyphen}, la}, api.ErrFormat},
		{[]api.Syllable{{}}, api.ErrFormat}, {[]api.Syllable{la, {}}, api.ErrFormat}, {[]api.Syllable{{}, {}, {}, la}, api.OK},
		{[]api.Syllable{{Text: "a", Link: 3}}, api.ErrRange}, {[]api.Syllable{{Text: "a", Link: -1}}, api.ErrRange}, {[]api.Syllable{{Text: long + "\n", Link: 3}}, api.ErrRange},
		{[]api.Syllable{{Text: long}}, api.OK}, {[]api.Syllable{{Text: long + "x"}}, api.ErrLong}, {[]api.Syllable{{Text: long + "\n"}}, api.ErrLong},
		{[]api.Syllable{{Text: "a\n"}}, api.ErrByte}, {[]api.Syllable{{Text: "\x00"}}, api.ErrByte}, {[]api.Syllable{{Text: "\x1f"}}, api.ErrByte}, {[]api.Syllable{{Text: "a\x7fb"}}, api.ErrByte},
		{[]api.Syllable{{Text: " ~\x80\xff\u00e9"}}, api.OK}, // bytes need not be text
		{[]api.Syllable{{Text: "\n"}, {Link: 3}}, api.ErrByte}, {[]api.Syllable{{Link: api.Hyphen}, {Link: 3}}, api.ErrFormat}, {[]api.Syllable{{Link: 3}, {}}, api.ErrRange},
	} {
		if e := CheckLyrics(c.l); e != c.e {
			t.Errorf("%d: CheckLyrics(%v) = %d; want %d", i, c.l, e, c.e)
		}
	}
}

// changed is a valid event with a change.
func changed(e api.Event, change func(e *api.Event)) api.Event {
	change(&e)
	return e
}

// P11.2: events with one error or none.
func TestCheck(t *testing.T) {
	rest, whole, skip := Rest(id, quarter), api.Event{ID: id, Kind: api.MeasureRest}, api.Event{ID: id, Kind: api.Skip, Value: quarter}
	set := func(f func(e *api.Event, n int), events ...api.Event) func(n int) []api.Event {
		return func(n int) []api.Event {
			var l []api.Event
			for _, e := range events {
				l = append(l, changed(e, func(e *api.Event) { f(e, n) }))
			}
			return l
		}
	}
	all := []api.Event{full(), notes("C4"), rest, whole, skip}
	site := func(e *api.Event, n int) { e.ID.Site = n }
	number := func(e *api.Event, n int) { e.ID.Number = n }
	dynamic := func(e *api.Event, n int) { e.Dynamic = n }
	log := func(e *api.Event, n int) { e.Value.Log = n }
	dots := func(e *api.Event, n int) { e.Value.Dots = n }
	signs := func(e *api.Event, n int) { e.Articulations = n }
	ornament := func(e *api.Event, n int) { e.Ornament = n }
	stem := func(e *api.Event, n int) { e.Stem = n }
	beam := func(e *api.Event, n int) { e.Beam = n }
	for i, c := range []struct {
		events func(n int) []api.Event
		good   []int
		bad    []int
		e      api.Errno
	}{
		{set(site, all...), []int{0, 99}, []int{100}, api.ErrRange},
		{set(number, all...), []int{0, 1 << 30}, []int{1<<30 + 1}, api.ErrRange},
		{set(func(e *api.Event, n int) { e.Kind = n }, rest), []int{2, 4}, []int{0, 5}, api.ErrKind},
		{set(dynamic, all...), []int{0, 1, 9}, []int{10}, api.ErrRange},
		{set(log, full(), rest, skip), []int{-1, 8}, []int{-2, 9}, api.ErrValue},
		{set(dots, full(), rest, skip), []int{0, 3}, []int{4}, api.ErrValue},
		{set(log, whole), []int{0}, []int{1, 8}, api.ErrFormat},
		{set(dots, whole), []int{0}, []int{1, 3}, api.ErrFormat},
		{set(signs, full(), notes("C4")), []int{0, 1, 15, 16, 31}, []int{32, 48}, api.ErrRange},
		{set(signs, rest, whole), []int{0, 16}, []int{1, 2, 4, 8, 15, 17, 31, 32, 48, -16}, api.ErrFormat},
		{set(signs, skip), []int{0}, []int{16, 1, 31, 32}, api.ErrFormat},
		{set(ornament, full(), notes("C4")), []int{0, 1, 4}, []int{5}, api.ErrRange},
		{set(ornament, rest, whole, skip), []int{0}, []int{1, 5}, api.ErrFormat},
		{set(stem, full(), notes("C4")), []int{0, 2}, []int{3}, api.ErrRange},
		{set(stem, rest, whole, skip), []int{0}, []int{1, 3}, api.ErrFormat},
		{set(beam, full(), notes("C4")), []int{0, 2}, []int{3}, api.ErrRange},
		{set(beam, rest, whole, skip), []int{0}, []int{1, 3}, api.ErrFormat},
	} {
		for _, n := range c.good {
			for _, e := range c.events(n) {
				if err := Check(e); err != api.OK {
					t.Errorf("%d: Check(%v) = %d", i, e, err)
				}
			}
		}
		for _, n := range append(c.bad, far...) {
			if n == -1 && slices.Contains(c.good, -1) {
				continue
			}
			for _, e := range c.events(n) {
				if err := Check(e); err != c.e {
					t.Errorf("%d: Check(%v) = %d; want %d", i, e, err, c.e)
				}
			}
		}
	}
}

// P11.2: the errors of the lists, and what comes first of two errors.
func TestCheckFirst(t *testing.T) {
	rest, whole, skip := Rest(id, quarter), api.Event{ID: id, Kind: api.MeasureRest}, api.Event{ID: id, Kind: api.Skip, Value: quarter}
	for _, e := range []api.Event{rest, whole, skip} {
		for i, c := range []api.Event{
			changed(e, func(e *api.Event) { e.Heads = heads("C4") }),
			changed(e, func(e *api.Event) { e.Graces = []api.Grace{{Pitch: named("C4"), Log: 3}} }),
			changed(e, func(e *api.Event) { e.Lyrics = []api.Syllable{{Text: "a"}} }),
			changed(e, func(e *api.Event) { e.Lyrics = []api.Syllable{{}} }),
			changed(e, func(e *api.Event) { e.Heads, e.Value, e.Dynamic = heads("?"), api.Value{Log: 9}, 10 }),
		} {
			if err := Check(c); err != api.ErrFormat {
				t.Errorf("%d: Check(%v) = %d", i, c, err)
			}
		}
		empty := changed(e, func(e *api.Event) { e.Heads, e.Graces, e.Lyrics = []api.Head{}, []api.Grace{}, []api.Syllable{} })
		if err := Check(empty); err != api.OK {
			t.Errorf("Check(%v) = %d", empty, err)
		}
	}
	// From the last error to the first one.
	worse := []struct {
		change func(e *api.Event)
		e      api.Errno
	}{
		{func(e *api.Event) { e.Beam = 3 }, api.ErrRange},
		{func(e *api.Event) { e.Articulations = 32 }, api.ErrRange},
		{func(e *api.Event) { e.Lyrics = []api.Syllable{{}} }, api.ErrFormat},
		{func(e *api.Event) { e.Graces = repeated(9, api.Grace{}) }, api.ErrLimit},
		{func(e *api.Event) { e.Heads = heads("D4 C4") }, api.ErrOrder},
		{func(e *api.Event) { e.Heads = nil }, api.ErrShort},
		{func(e *api.Event) { e.Value.Dots = 4 }, api.ErrValue},
		{func(e *api.Event) { e.Kind = api.Rest }, api.ErrFormat},
		{func(e *api.Event) { e.Kind = 5 }, api.ErrKind},
		{func(e *api.Event) { e.ID.Site = 100 }, api.ErrRange},
	}
	e := full()
	for i, c := range worse {
		c.change(&e)
		if err := Check(e); err != c.e {
			t.Errorf("%d: Check(%v) = %d; want %d", i, e, err, c.e)
		}
	}
}

// numberOf is the number of a pitch, or -1 if there is none.
func numberOf(p api.Pitch) int {
	if n, e := pitch.Number(p); e == api.OK {
		return n
	}
	return -1
}

// some are random events, most of them with an error or two.
func some(r *rand.Rand) api.Event {
	pick := func(n int) int {
		switch r.Intn(30) {
		case 0:
			return n + 1
		case 1:
			return -1 - r.Intn(100)
		}
		return r.Intn(n + 1)
	}
	e := api.Event{ID: api.ID{Site: pick(99), Number: pick(1 << 30)}, Kind: pick(4), Dynamic: pick(9)}
	used := func(kinds ...int) bool { return slices.Contains(kinds, e.Kind) != (r.Intn(20) == 0) }
	if used(1, 2, 4) {
		e.Value = api.Value{Log: pick(8), Dots: pick(3)}
	}
	if used(1, 2, 3) {
		e.Articulations = 16 * r.Intn(2)
	}
	if used(1) {
		e.Articulations |= pick(31)
		e.Ornament, e.Stem, e.Beam = pick(4), pick(2), pick(2)
		n := 60
		for range r.Intn(4) + r.Intn(10)/9*9 {
			n += r.Intn(7) + 1 - r.Intn(20)/19*3
			l, _ := pitch.Enharmonics(n)
			e.Heads = append(e.Heads, api.Head{Pitch: l[r.Intn(len(l))], Tied: r.Intn(2) == 0, Show: pick(2)})
		}
		for range max(0, r.Intn(13)-3) {
			e.Graces = append(e.Graces, api.Grace{Pitch: api.Pitch{Step: pick(6), Octave: 4}, Log: max(1, pick(6))})
		}
		texts := []string{"", "", "la", "x y", "\u00e9", "a\tb", strings.Repeat("z", 257)}
		for range max(0, r.Intn(7)-2) {
			e.Lyrics = append(e.Lyrics, api.Syllable{Text: texts[r.Intn(5)+r.Intn(20)/18*2], Link: pick(2)})
		}
	}
	return e
}

// fault is an error if it is present.
type fault struct {
	present bool
	e       api.Errno
}

// expected is the first error of an event by the chapter.
func expected(e api.Event) api.Errno {
	in := func(n, low, high int) bool { return low <= n && n <= high }
	chord, rest, measureRest, skip := e.Kind == 1, e.Kind == 2, e.Kind == 3, e.Kind == 4
	fermata := e.Articulations >= 0 && e.Articulations/16%2 == 1
	others := e.Articulations != 0 && !(fermata && e.Articulations == 16)
	faults := []fault{
		{!in(e.ID.Site, 0, 99) || !in(e.ID.Number, 0, 1<<30), api.ErrRange},
		{!chord && !rest && !measureRest && !skip, api.ErrKind},
		{measureRest && e.Value != api.Value{}, api.ErrFormat},
		{skip && fermata, api.ErrFormat},
		{!chord && (len(e.Heads)+len(e.Graces)+len(e.Lyrics) > 0 || others || e.Ornament != 0 || e.Stem != 0 || e.Beam != 0), api.ErrFormat},
		{!measureRest && (!in(e.Value.Log, -1, 8) || !in(e.Value.Dots, 0, 3)), api.ErrValue},
	}
	if chord {
		faults = append(faults, fault{len(e.Heads) == 0, api.ErrShort}, fault{len(e.Heads) > 10, api.ErrLimit})
		for i, h := range e.Heads {
			faults = append(faults, fault{numberOf(h.Pitch) < 0, api.ErrPitch}, fault{!in(h.Show, 0, 2), api.ErrRange})
			faults = append(faults, fault{i > 0 && numberOf(h.Pitch) <= numberOf(e.Heads[max(0, i-1)].Pitch), api.ErrOrder})
		}
		faults = append(faults, fault{len(e.Graces) > 8, api.ErrLimit})
		for _, g := range e.Graces {
			faults = append(faults, fault{numberOf(g.Pitch) < 0, api.ErrPitch}, fault{!in(g.Log, 1, 6), api.ErrRange})
		}
		faults = append(faults, fault{len(e.Lyrics) > 4, api.ErrLimit})
		last := true
		for _, s := range e.Lyrics {
			control := strings.ContainsFunc(s.Text, func(r rune) bool { return r < 32 || r == 127 })
			faults = append(faults, fault{!in(s.Link, 0, 2), api.ErrRange}, fault{len(s.Text) > 256, api.ErrLong}, fault{control, api.ErrByte}, fault{s.Text == "" && s.Link == 1, api.ErrFormat})
			last = s.Text != "" || s.Link != 0
		}
		faults = append(faults, fault{!last, api.ErrFormat})
	}
	faults = append(faults, fault{!in(e.Articulations, 0, 31) || !in(e.Ornament, 0, 4) || !in(e.Dynamic, 0, 9) || !in(e.Stem, 0, 2) || !in(e.Beam, 0, 2), api.ErrRange})
	i := slices.IndexFunc(faults, func(f fault) bool { return f.present })
	if i < 0 {
		return api.OK
	}
	return faults[i].e
}

// ordered are the heads of a chord in order, found number by number.
func ordered(l []api.Head) []api.Head {
	var out []api.Head
	for n := range 128 {
		if i := slices.IndexFunc(l, func(h api.Head) bool { return numberOf(h.Pitch) == n }); i >= 0 {
			out = append(out, l[i])
		}
	}
	return out
}

// reduced is the canonical form of an event by the chapter.
func reduced(e api.Event) api.Event {
	out := Clone(e)
	if e.Kind < 1 || e.Kind > 4 {
		return out
	}
	if e.Kind == api.MeasureRest {
		out.Value = api.Value{}
	}
	if e.Kind == api.Chord {
		out.Heads = ordered(e.Heads)
		for i := len(e.Lyrics); i > 0 && e.Lyrics[i-1].Text == "" && e.Lyrics[i-1].Link == 0; i-- {
			out.Lyrics = e.Lyrics[:i-1]
		}
		return out
	}
	fermata := e.Articulations >= 0 && e.Articulations/16%2 == 1 && e.Kind != api.Skip
	out.Heads, out.Graces, out.Lyrics = nil, nil, nil
	out.Articulations, out.Ornament, out.Stem, out.Beam = 0, 0, 0, 0
	if fermata {
		out.Articulations = api.Fermata
	}
	return out
}

// P11.2, P11.3, P11.5, P11.6, P11.8: random events.
func TestRandom(t *testing.T) {
	r := rand.New(rand.NewSource(11))
	count := map[api.Errno]int{}
	for range 100000 {
		e := some(r)
		before := deep(e)
		want := expected(e)
		count[want]++
		if err := Check(e); err != want {
			t.Fatalf("Check(%v) = %d; want %d", e, err, want)
		}
		c := Canonical(e)
		if !same(c, reduced(e)) {
			t.Fatalf("Canonical(%v) = %v; want %v", e, c, reduced(e))
		}
		if !same(Canonical(c), c) || want == api.OK && !same(c, e) {
			t.Fatalf("Canonical(%v) = %v", e, c)
		}
		n, err := Written(e)
		ticks, _ := duration.Ticks(e.Value)
		if want != api.OK || e.Kind == api.MeasureRest {
			ticks = 0
		}
		if n != ticks || err != want {
			t.Fatalf("Written(%v) = %d, %d; want %d, %d", e, n, err, ticks, want)
		}
		checkHeadChanges(t, r, e, want)
		if !same(e, before) {
			t.Fatalf("%v has become %v", before, e)
		}
	}
	for _, e := range []api.Errno{api.OK, api.ErrRange, api.ErrKind, api.ErrFormat, api.ErrValue, api.ErrShort, api.ErrLimit, api.ErrPitch, api.ErrOrder, api.ErrLong, api.ErrByte} {
		if count[e] < 20 {
			t.Errorf("%d events with the error %d", count[e], e)
		}
	}
}

// checkHeadChanges adds and removes heads of an event with an error.
func checkHeadChanges(t *testing.T, r *rand.Rand, e api.Event, err api.Errno) {
	t.Helper()
	l, _ := pitch.Enharmonics(55 + r.Intn(30))
	h := api.Head{Pitch: l[r.Intn(len(l))], Tied: r.Intn(2) == 0, Show: r.Intn(3)}
	at := slices.IndexFunc(e.Heads, func(a api.Head) bool { return numberOf(a.Pitch) == numberOf(h.Pitch) })
	if i, found := FindHead(e, h.Pitch); found != (at >= 0) || i != max(0, at) {
		t.Fatalf("FindHead(%v, %v) = %d, %t; want %d", e, h.Pitch, i, found, at)
	}
	if err == api.OK && e.Kind != api.Chord {
		err = api.ErrKind
	}
	added, got := AddHead(e, h)
	removed, gotRemoved := RemoveHead(e, len(e.Heads)-1)
	if err != api.OK {
		if got != err || gotRemoved != err || !same(added, api.Event{}) || !same(removed, api.Event{}) {
			t.Fatalf("AddHead or RemoveHead of %v: %d, %d; want %d", e, got, gotRemoved, err)
		}
		return
	}
	if gotRemoved != api.OK || Check(removed) != api.OK || len(removed.Heads) != len(e.Heads)-1 {
		t.Fatalf("RemoveHead(%v) = %v, %d", e, removed, gotRemoved)
	}
	if at >= 0 || len(e.Heads) == 10 {
		if got != api.ErrDuplicate && (at >= 0 || got != api.ErrLimit) {
			t.Fatalf("AddHead(%v, %v): %d", e, h, got)
		}
		return
	}
	want := deep(e)
	want.Heads = ordered(append(want.Heads, h))
	if got != api.OK || !same(added, want) {
		t.Fatalf("AddHead(%v, %v) = %v, %d", e, h, added, got)
	}
	i, _ := FindHead(added, h.Pitch)
	if back, got := RemoveHead(added, i); got != api.OK || !same(back, e) {
		t.Fatalf("RemoveHead(%v, %d) = %v, %d; want %v", added, i, back, got, e)
	}
}

// deep and same copy and compare events field by field without the package's functions.
func deep(e api.Event) api.Event {
	e.Heads = append([]api.Head{}, e.Heads...)
	e.Graces = append([]api.Grace{}, e.Graces...)
	e.Lyrics = append([]api.Syllable{}, e.Lyrics...)
	return e
}

func same(a, b api.Event) bool {
	plain := func(e api.Event) [11]int {
		return [11]int{e.ID.Site, e.ID.Number, e.Kind, e.Value.Log, e.Value.Dots, e.Articulations, e.Ornament, e.Dynamic, e.Stem, e.Beam}
	}
	return plain(a) == plain(b) && slices.Equal(a.Heads, b.Heads) && slices.Equal(a.Graces, b.Graces) && slices.Equal(a.Lyrics, b.Lyrics)
}

// P11.3
func TestCanonical(t *testing.T) {
	for _, c := range []struct{ names, want string }{
		{"", ""}, {"C4", "C4"}, {"G4 C4", "C4 G4"}, {"G4 C4 B#3", "C4 G4"}, {"G4 B#3 C4", "B#3 G4"},
		{"C4~ C4!", "C4~"}, {"C4! C4~", "C4!"}, {"E4 ? C4", "C4 E4"}, {"? ?", ""}, {"D4 Ebb4~ C##4", "D4"}, {"C4*", "C4*"},
		{"B#3 Cb4", "Cb4 B#3"}, {"G9 C-1", "C-1 G9"},
		{"F5 E5 D5 C5 B4 A4 G4 F4 E4 D4 C4", "C4 D4 E4 F4 G4 A4 B4 C5 D5 E5 F5"},
	} {
		if e := Canonical(notes(c.names)); !same(e, notes(c.want)) {
			t.Errorf("Canonical(%s) = %v; want %s", c.names, e, c.want)
		}
	}
	l := []api.Syllable{{}, {Text: "a"}, {}, {Link: api.Extender}, {}, {}}
	if e := Canonical(api.Event{Kind: api.Chord, Lyrics: l}); !slices.Equal(e.Lyrics, l[:4]) {
		t.Errorf("lyrics %v", e.Lyrics)
	}
	if e := Canonical(api.Event{Kind: api.Chord, Lyrics: make([]api.Syllable, 3)}); len(e.Lyrics) > 0 {
		t.Errorf("lyrics %v", e.Lyrics)
	}
	f := full()
	for kind, want := range map[int]api.Event{
		api.Chord:       f,
		api.Rest:        {ID: id, Kind: api.Rest, Value: f.Value, Articulations: api.Fermata, Dynamic: f.Dynamic},
		api.MeasureRest: {ID: id, Kind: api.MeasureRest, Articulations: api.Fermata, Dynamic: f.Dynamic},
		api.Skip:        {ID: id, Kind: api.Skip, Value: f.Value, Dynamic: f.Dynamic},
	} {
		f.Kind = kind
		if e := Canonical(f); !same(e, want) || Check(e) != api.OK {
			t.Errorf("Canonical of the kind %d = %v; want %v", kind, e, want)
		}
	}
	for _, kind := range append([]int{0, 5}, far...) {
		f := full()
		f.Kind, f.Heads, f.Lyrics = kind, heads("G4 C4 ? C4"), make([]api.Syllable, 2)
		if e := Canonical(f); !same(e, f) {
			t.Errorf("Canonical of the kind %d = %v", kind, e)
		}
	}
	// The articulation Fermata is a bit of numbers that are not negative.
	for n, want := range map[int]int{-1: 0, -16: 0, math.MinInt: 0, 15: 0, 16: 16, 31: 16, 48: 16, 32: 0, math.MaxInt: 16} {
		if e := Canonical(api.Event{Kind: api.Rest, Articulations: n}); e.Articulations != want {
			t.Errorf("Canonical of a rest with the articulations %d has %d; want %d", n, e.Articulations, want)
		}
	}
}

// P11.3
func TestWritten(t *testing.T) {
	for i, c := range []struct {
		e     api.Event
		ticks int
		err   api.Errno
	}{
		{notes("C4"), 483840, api.OK}, {full(), 362880, api.OK}, {Rest(id, api.Value{Log: -1, Dots: 3}), 7257600, api.OK},
		{api.Event{Kind: api.Skip, Value: api.Value{Log: 8}}, 7560, api.OK}, {api.Event{Kind: api.MeasureRest}, 0, api.OK},
		{api.Event{Kind: api.MeasureRest, Value: quarter}, 0, api.ErrFormat}, {Rest(id, api.Value{Log: 9}), 0, api.ErrValue},
		{notes(""), 0, api.ErrShort}, {api.Event{}, 0, api.ErrKind}, {notes("D4 C4"), 0, api.ErrOrder},
	} {
		if n, err := Written(c.e); n != c.ticks || err != c.err {
			t.Errorf("%d: Written(%v) = %d, %d; want %d, %d", i, c.e, n, err, c.ticks, c.err)
		}
	}
}

// P11.4
func TestMake(t *testing.T) {
	wrong := api.Value{Log: 20, Dots: -1}
	for _, v := range []api.Value{quarter, {}, wrong} {
		if e := Rest(id, v); !same(e, api.Event{ID: id, Kind: api.Rest, Value: v}) {
			t.Errorf("Rest = %v", e)
		}
		e := Chord(id, v, named("G4"), named("C4"), named("B#3"), named("?"))
		if !same(e, api.Event{ID: id, Kind: api.Chord, Value: v, Heads: heads("C4 G4")}) {
			t.Errorf("Chord = %v", e)
		}
		if e := Chord(id, v); !same(e, api.Event{ID: id, Kind: api.Chord, Value: v}) {
			t.Errorf("Chord without pitches = %v", e)
		}
	}
	if e := Chord(api.ID{Site: -1}, quarter, named("?")); !same(e, api.Event{ID: api.ID{Site: -1}, Kind: api.Chord, Value: quarter}) {
		t.Errorf("Chord = %v", e)
	}
}

// P11.5
func TestAddHead(t *testing.T) {
	ten := "C4 D4 E4 F4 G4 A4 B4 C5 D5 E5"
	for i, c := range []struct {
		e    api.Event
		head string
		want string
		err  api.Errno
	}{
		{notes("C4~ G4!"), "E4~()", "C4~ E4~() G4!", api.OK}, {notes("C4"), "B3", "B3 C4", api.OK}, {notes("C4"), "G9", "C4 G9", api.OK},
		{notes("C4 D4"), "Db4", "C4 Db4 D4", api.OK},
		{notes("C4"), "C4", "", api.ErrDuplicate}, {notes("C4"), "B#3", "", api.ErrDuplicate}, {notes("C4 D4"), "D4~!", "", api.ErrDuplicate},
		{notes("C4"), "?", "", api.ErrPitch}, {notes("C4"), "?*", "", api.ErrPitch}, {notes("C4"), "D4*", "", api.ErrRange}, {notes("C4"), "C4*", "", api.ErrRange},
		{notes(ten), "F5", "", api.ErrLimit}, {notes(ten), "E5", "", api.ErrDuplicate}, {notes(ten), "F5*", "", api.ErrRange}, {notes(ten[:len(ten)-3]), "E5", ten, api.OK},
		{Rest(id, quarter), "C4", "", api.ErrKind}, {Rest(id, quarter), "?", "", api.ErrKind}, {api.Event{Kind: api.MeasureRest}, "C4", "", api.ErrKind},
		{notes(""), "C4", "", api.ErrShort}, {api.Event{}, "?", "", api.ErrKind}, {Rest(id, api.Value{Log: 9}), "C4", "", api.ErrValue}, {notes(ten + " F5"), "?", "", api.ErrLimit},
	} {
		want := api.Event{}
		if c.err == api.OK {
			want = notes(c.want)
		}
		if e, err := AddHead(c.e, heads(c.head)[0]); !same(e, want) || err != c.err {
			t.Errorf("%d: AddHead(%v, %s) = %v, %d; want %v, %d", i, c.e, c.head, e, err, want, c.err)
		}
	}
	e, err := AddHead(full(), api.Head{Pitch: named("A3")})
	want := full()
	want.Heads = heads("A3 C4~ E4! Bb4()")
	if !same(e, want) || err != api.OK {
		t.Errorf("AddHead = %v, %d", e, err)
	}
}

// P11.5
func TestRemoveHead(t *testing.T) {
	for i, want := range []string{"E4! Bb4()", "C4~ Bb4()", "C4~ E4!"} {
		e, err := RemoveHead(full(), i)
		w := full()
		w.Heads = heads(want)
		if !same(e, w) || err != api.OK {
			t.Errorf("RemoveHead %d = %v, %d", i, e, err)
		}
	}
	f := full()
	f.Heads = heads("C4~")
	for signs, left := range map[int]int{31: 16, 16: 16, 15: 0, 0: 0} {
		f.Articulations = signs
		e, err := RemoveHead(f, 0)
		if want := (api.Event{ID: id, Kind: api.Rest, Value: f.Value, Dynamic: f.Dynamic, Articulations: left}); !same(e, want) || err != api.OK {
			t.Errorf("RemoveHead of the last head = %v, %d; want %v", e, err, want)
		}
	}
	for i, c := range []struct {
		e     api.Event
		index int
		err   api.Errno
	}{
		{notes("C4"), 1, api.ErrRange}, {notes("C4 D4"), 2, api.ErrRange}, {notes("C4"), -1, api.ErrRange}, {notes("C4"), math.MinInt, api.ErrRange}, {notes("C4"), math.MaxInt, api.ErrRange},
		{Rest(id, quarter), 0, api.ErrKind}, {Rest(id, quarter), -1, api.ErrKind}, {notes("D4 C4"), 5, api.ErrOrder}, {notes(""), 0, api.ErrShort}, {api.Event{}, 0, api.ErrKind},
	} {
		if e, err := RemoveHead(c.e, c.index); !same(e, api.Event{}) || err != c.err {
			t.Errorf("%d: RemoveHead(%v, %d) = %v, %d; want %d", i, c.e, c.index, e, err, c.err)
		}
	}
}

// P11.5
func TestFindHead(t *testing.T) {
	for _, c := range []struct {
		names, pitch string
		index        int
		found        bool
	}{
		{"C4 E4 G4", "C4", 0, true}, {"C4 E4 G4", "G4", 2, true}, {"C4 E4 G4", "Fb4", 1, true}, {"C4 E4 G4", "F4", 0, false}, {"C4 E4 G4", "C5", 0, false},
		{"", "C4", 0, false}, {"? C4", "?", 0, false}, {"? C4", "C4", 1, true}, {"G4 C4 B#3", "C4", 1, true}, {"?", "C-1", 0, false}, {"C-1", "?", 0, false}, {"C-1", "C-1", 0, true},
	} {
		for _, kind := range []int{api.Chord, api.Rest, 0} { // the heads are looked at, whatever the kind
			e := notes(c.names)
			e.Kind = kind
			if i, found := FindHead(e, named(c.pitch)); i != c.index || found != c.found {
				t.Errorf("FindHead(%s, %s) = %d, %t", c.names, c.pitch, i, found)
			}
		}
	}
}

// P11.6
func TestTies(t *testing.T) {
	rest := changed(notes("C4~"), func(e *api.Event) { e.Kind = api.Rest })
	for i, c := range []struct {
		e            api.Event
		sounds, ties bool
	}{
		{notes("C4"), true, false}, {notes("C4~"), true, true}, {notes("C4 E4~ G4"), true, true}, {notes(""), false, false},
		{Rest(id, quarter), false, false}, {rest, false, false}, {api.Event{}, false, false}, {api.Event{Kind: api.MeasureRest}, false, false},
	} {
		if Sounds(c.e) != c.sounds || Ties(c.e) != c.ties {
			t.Errorf("%d: Sounds and Ties of %v: %t, %t", i, c.e, Sounds(c.e), Ties(c.e))
		}
		u := Untie(c.e)
		want := deep(c.e)
		for k := range want.Heads {
			want.Heads[k].Tied = false
		}
		if !same(u, want) || Ties(u) {
			t.Errorf("%d: Untie(%v) = %v", i, c.e, u)
		}
	}
	if u := Untie(rest); u.Heads[0].Tied {
		t.Errorf("Untie(%v) = %v", rest, u)
	}
	f := full()
	f.Heads[0].Tied = false
	if u := Untie(full()); !same(u, f) {
		t.Errorf("Untie = %v", u)
	}
}

// P11.6
func TestJoins(t *testing.T) {
	rest := changed(notes("C4~ E4~"), func(e *api.Event) { e.Kind = api.Rest })
	for i, c := range []struct {
		e, next api.Event
		joins   bool
	}{
		{notes("C4~"), notes("C4"), true}, {notes("C4~"), notes("C4~!"), true}, {notes("C4~"), notes("B3 C4 D4"), true}, {notes("C4~ E4"), notes("C4"), true},
		{notes("C4~ E4~"), notes("C4"), false}, {notes("C4~ E4~"), notes("C4 E4"), true}, {notes("C4~"), notes("B#3"), false}, {notes("C4~"), notes("C5"), false},
		{notes("C4~"), Rest(id, quarter), false}, {notes("C4~"), notes(""), false}, {notes("C4~"), api.Event{}, false}, {notes("C4~ E4~"), rest, false},
		{notes("C4"), Rest(id, quarter), true}, {notes("C4"), notes("D4"), true}, {notes(""), api.Event{}, true}, {api.Event{}, api.Event{}, true},
		{rest, Rest(id, quarter), true}, {rest, notes("D4"), true},
	} {
		if Joins(c.e, c.next) != c.joins {
			t.Errorf("%d: Joins(%v, %v) = %t", i, c.e, c.next, !c.joins)
		}
	}
}

// P11.7: each field matters to Equal, and all but the id to Same.
func TestEqual(t *testing.T) {
	empty := api.Event{Heads: []api.Head{}, Graces: []api.Grace{}, Lyrics: []api.Syllable{}}
	if !Equal(empty, api.Event{}) || !Same(empty, api.Event{}) || !Equal(full(), full()) || !Same(full(), full()) {
		t.Error("equal events differ")
	}
	for i, change := range []func(e *api.Event){
		func(e *api.Event) { e.ID.Site++ }, func(e *api.Event) { e.ID.Number++ },
		func(e *api.Event) { e.Kind++ }, func(e *api.Event) { e.Value.Log++ }, func(e *api.Event) { e.Value.Dots++ },
		func(e *api.Event) { e.Heads[1].Pitch.Alter++ }, func(e *api.Event) { e.Heads[0].Tied = false }, func(e *api.Event) { e.Heads[2].Show = 0 }, func(e *api.Event) { e.Heads = e.Heads[:2] },
		func(e *api.Event) { e.Graces[0].Slash = false }, func(e *api.Event) { e.Graces[1].Log++ }, func(e *api.Event) { e.Graces[1].Pitch.Octave++ }, func(e *api.Event) { e.Graces = nil },
		func(e *api.Event) { e.Articulations-- }, func(e *api.Event) { e.Ornament-- }, func(e *api.Event) { e.Dynamic-- },
		func(e *api.Event) { e.Lyrics[1].Text += "l" }, func(e *api.Event) { e.Lyrics[0].Link = 2 }, func(e *api.Event) { e.Lyrics = append(e.Lyrics, api.Syllable{}) },
		func(e *api.Event) { e.Stem-- }, func(e *api.Event) { e.Beam-- },
	} {
		a, b := full(), full()
		change(&b)
		if Equal(a, b) || Equal(b, a) || Same(a, b) != (i < 2) || Same(b, a) != (i < 2) {
			t.Errorf("%d: Equal(%v, %v) = %t, Same = %t", i, a, b, Equal(a, b), Same(a, b))
		}
		if c := Clone(b); !same(c, b) || !Equal(c, b) || !Equal(b, c) {
			t.Errorf("%d: Clone(%v) = %v", i, b, c)
		}
	}
}

// P11.8: results share no memory with arguments.
func TestIndependent(t *testing.T) {
	results := map[string]func(e api.Event) api.Event{
		"Clone": Clone, "Canonical": Canonical, "Untie": Untie,
		"AddHead":        func(e api.Event) api.Event { a, _ := AddHead(e, api.Head{Pitch: named("C6")}); return a },
		"RemoveHead":     func(e api.Event) api.Event { a, _ := RemoveHead(e, 2); return a },
		"of a wrong one": func(e api.Event) api.Event { e.Kind = 9; return Canonical(e) },
	}
	for name, f := range results {
		e := full()
		// Room behind the lists must not be written to either.
		e.Heads = append(make([]api.Head, 0, 20), e.Heads...)
		out := f(e)
		if len(out.Heads) == 0 || len(out.Graces) == 0 || len(out.Lyrics) == 0 {
			t.Fatalf("%s: %v", name, out)
		}
		for i := range out.Heads {
			out.Heads[i] = api.Head{}
		}
		for i := range out.Graces {
			out.Graces[i] = api.Grace{}
		}
		for i := range out.Lyrics {
			out.Lyrics[i] = api.Syllable{}
		}
		if !same(e, full()) || e.Heads[:4][3] != (api.Head{}) {
			t.Errorf("%s shares memory with its argument", name)
		}
	}
	pitches := []api.Pitch{named("G4"), named("?"), named("C4")}
	Chord(id, quarter, pitches...)
	if !slices.Equal(pitches, []api.Pitch{named("G4"), named("?"), named("C4")}) {
		t.Error("Chord has changed its argument")
	}
}
