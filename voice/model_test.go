package voice

import (
	"cmp"
	"math/big"
	"math/rand"
	"slices"
	"strconv"
	"testing"

	"hemiola/api"
	"hemiola/duration"
	"hemiola/event"
	"hemiola/metre"
)

// A sheet is a voice as it is seen on paper: events and tuplets reach from one tick to another one.
type sheet struct {
	events  []timed
	tuplets []bracket
}

type timed struct {
	on, off int
	x       api.Event
}

type bracket struct{ on, off, actual, normal int }

// unroll returns the sheet of a voice, if it is valid.
func unroll(v api.Voice, length int) (sheet, bool) {
	var s sheet
	if len(v.Events) == 1 && v.Events[0].Kind == api.MeasureRest {
		return sheet{events: []timed{{0, length, v.Events[0]}}}, len(v.Tuplets) == 0
	}
	now := new(big.Rat)
	for i, x := range v.Events {
		ticks, e := duration.Ticks(x.Value)
		if e != api.OK || x.Kind == api.MeasureRest {
			return sheet{}, false
		}
		n := big.NewRat(int64(ticks), 1)
		for _, t := range v.Tuplets {
			if t.First <= i && i < t.First+t.Count {
				n.Mul(n, big.NewRat(int64(t.Normal), int64(t.Actual)))
			}
		}
		if !n.IsInt() {
			return sheet{}, false
		}
		on := int(now.Num().Int64())
		now.Add(now, n)
		s.events = append(s.events, timed{on, int(now.Num().Int64()), x})
	}
	for _, t := range v.Tuplets {
		if t.First+t.Count > len(v.Events) {
			return sheet{}, false
		}
		s.tuplets = append(s.tuplets, bracket{s.events[t.First].on, s.events[t.First+t.Count-1].off, t.Actual, t.Normal})
	}
	return s, len(s.events) == 0 || s.events[len(s.events)-1].off == length
}

// roll returns the voice of a sheet from one tick to another one.
func (s sheet) roll(from, to int) api.Voice {
	var v api.Voice
	for _, x := range s.events {
		if from <= x.on && x.on < to {
			v.Events = append(v.Events, x.x)
		}
	}
	for _, b := range s.tuplets {
		t := api.Tuplet{Actual: b.actual, Normal: b.normal}
		for _, x := range s.events {
			switch {
			case x.on < b.on && x.on >= from:
				t.First++
			case x.on >= b.on && x.on < b.off:
				t.Count++
			}
		}
		if from <= b.on && b.off <= to && from < to {
			v.Tuplets = append(v.Tuplets, t)
		}
	}
	slices.SortStableFunc(v.Tuplets, func(a, b api.Tuplet) int {
		return cmp.Or(cmp.Compare(a.First, b.First), cmp.Compare(b.Count, a.Count))
	})
	return v
}

// laid returns the notes of an event one after another.
func laid(x api.Event, p Place, from, to int, again, on bool) []timed {
	values, e := metre.Split(p.Metre, p.Offset+from, p.Offset+to)
	if e != api.OK {
		panic(e)
	}
	var l []timed
	for i, v := range values {
		n := event.Clone(x)
		if i > 0 || again {
			n = api.Event{Kind: x.Kind, Stem: x.Stem, Heads: slices.Clone(x.Heads)}
			for k := range n.Heads {
				n.Heads[k].Show = 0
			}
		}
		for k := range n.Heads {
			n.Heads[k].Tied = x.Heads[k].Tied || on || i < len(values)-1
		}
		n.Value = v
		ticks, _ := duration.Ticks(v)
		l = append(l, timed{from, from + ticks, n})
		from += ticks
	}
	return l
}

// divided returns the sheet divided at a tick.
func (s sheet) divided(p Place, tick int) (sheet, api.Errno) {
	i := slices.IndexFunc(s.events, func(x timed) bool { return x.on < tick && tick < x.off })
	if i < 0 {
		return s, api.OK
	}
	x := s.events[i]
	if slices.ContainsFunc(s.tuplets, func(b bracket) bool { return b.on <= x.on && x.on < b.off }) {
		return s, api.ErrFit
	}
	for _, t := range []int{x.on, tick, x.off} {
		if (p.Offset+t)%finest != 0 {
			return s, api.ErrTick
		}
	}
	if x.x.Kind == api.MeasureRest {
		x.x.Kind = api.Rest
	}
	l := append(laid(x.x, p, x.on, tick, false, true), laid(x.x, p, tick, x.off, true, false)...)
	s.events = slices.Concat(s.events[:i], l, s.events[i+1:])
	if len(s.events) > 128 {
		return s, api.ErrLimit
	}
	return s, api.OK
}

// parted returns the sheet divided at both ticks, with the errors of Cut for a voice that is present.
func (s sheet) parted(p Place, from, to int) (sheet, api.Errno) {
	if from < 0 || to < from || to > p.Length {
		return s, api.ErrRange
	}
	s, e := s.divided(p, from)
	if e == api.OK {
		s, e = s.divided(p, to)
	}
	if e != api.OK {
		return s, e
	}
	for _, b := range s.tuplets {
		common := min(b.off, to) > max(b.on, from)
		if common && (b.on < from || b.off > to) {
			return s, api.ErrFit
		}
	}
	return s, api.OK
}

// put returns the sheet with another one, which is valid there, in place of what is between two ticks.
func (s sheet) put(p Place, from, to int, x sheet) (api.Voice, api.Errno) {
	d, e := s.parted(p, from, to)
	if e != api.OK {
		return api.Voice{}, e
	}
	var out sheet
	inside := func(on int) bool { return from <= on && on < to }
	for _, a := range d.events {
		if !inside(a.on) {
			out.events = append(out.events, timed{a.on, a.off, event.Clone(a.x)})
		}
	}
	for _, b := range d.tuplets {
		if !inside(b.on) {
			out.tuplets = append(out.tuplets, b)
		}
	}
	for _, a := range x.events {
		out.events = append(out.events, timed{a.on + from, a.off + from, event.Clone(a.x)})
	}
	for _, b := range x.tuplets {
		out.tuplets = append(out.tuplets, bracket{b.on + from, b.off + from, b.actual, b.normal})
	}
	slices.SortFunc(out.events, func(a, b timed) int { return cmp.Compare(a.on, b.on) })
	for i, a := range out.events {
		if (a.off == from || a.off == to) && i+1 < len(out.events) {
			next := out.events[i+1].x
			for k, h := range a.x.Heads {
				found := slices.ContainsFunc(next.Heads, func(n api.Head) bool { return n.Pitch == h.Pitch })
				a.x.Heads[k].Tied = h.Tied && found
			}
		}
	}
	if len(out.events) > 128 || len(out.tuplets) > 16 {
		return api.Voice{}, api.ErrLimit
	}
	return out.roll(0, p.Length), api.OK
}

// isRun reports whether events, none of which is in a tuplet, are a run.
func isRun(l []timed) bool {
	first := l[0].x
	for i, a := range l {
		x := a.x
		if x.Kind != first.Kind || x.Kind == api.MeasureRest {
			return false
		}
		if x.Kind != api.Chord {
			if x.Dynamic != 0 || x.Articulations != 0 {
				return false
			}
			continue
		}
		if i > 0 {
			if len(x.Graces) > 0 || len(x.Lyrics) > 0 || x.Articulations != 0 || x.Ornament != 0 || x.Dynamic != 0 || x.Beam != 0 || x.Stem != first.Stem {
				return false
			}
		}
		if len(x.Heads) != len(first.Heads) {
			return false
		}
		for k, h := range x.Heads {
			if h.Pitch != first.Heads[k].Pitch || i > 0 && h.Show != 0 || i < len(l)-1 && !h.Tied {
				return false
			}
		}
	}
	return true
}

// simplified returns the simplified voice: of all stretches that are runs, those that lie in no other one are replaced.
func (s sheet) simplified(p Place) api.Voice {
	free := func(a timed) bool {
		return !slices.ContainsFunc(s.tuplets, func(b bracket) bool { return b.on <= a.on && a.on < b.off })
	}
	run := func(i, k int) bool {
		if i < 0 || k > len(s.events) || k-i < 2 {
			return false
		}
		for _, a := range s.events[i:k] {
			if !free(a) {
				return false
			}
		}
		return isRun(s.events[i:k])
	}
	out := sheet{tuplets: s.tuplets}
	for i := 0; i < len(s.events); {
		k := i + 1
		for run(i, k+1) {
			k++
		}
		if run(i-1, k) {
			panic("a run within another one")
		}
		first, last := s.events[i], s.events[k-1]
		x := event.Clone(first.x)
		for n := range x.Heads {
			x.Heads[n].Tied = last.x.Heads[n].Tied
		}
		if k-i > 1 && (p.Offset+first.on)%finest == 0 && (p.Offset+last.off)%finest == 0 {
			if l := laid(x, p, first.on, last.off, false, false); len(l) < k-i {
				for n := range l {
					l[n].x.ID = s.events[i+n].x.ID
				}
				out.events = append(out.events, l...)
				i = k
				continue
			}
		}
		out.events = append(out.events, s.events[i:k]...)
		i = k
	}
	return out.roll(0, p.Length)
}

// chance makes random voices.
type chance struct{ *rand.Rand }

func (r chance) event(v api.Value, number int) api.Event {
	x := api.Event{ID: api.ID{Site: r.Intn(3), Number: number}, Kind: api.Chord, Value: v}
	switch r.Intn(4) {
	case 0:
		x.Kind = api.Rest
	case 1:
		x.Kind = api.Skip
	default:
		for _, step := range [][]int{{0}, {0, 2}, {0, 2, 4}, {4}, {0, 1, 6}}[r.Intn(5)] {
			x.Heads = append(x.Heads, api.Head{Pitch: api.Pitch{Step: step, Octave: 4}, Tied: r.Intn(3) > 0, Show: max(0, r.Intn(12)-9)})
		}
		if r.Intn(4) == 0 {
			x.Articulations, x.Ornament, x.Stem, x.Beam = r.Intn(16), r.Intn(5), r.Intn(3), r.Intn(3)
			x.Lyrics = []api.Syllable{{Text: "la"}}[:r.Intn(2)]
			x.Graces = []api.Grace{{Pitch: api.Pitch{Octave: 4}, Log: 3}}[:r.Intn(2)]
		}
	}
	if r.Intn(6) == 0 {
		x.Dynamic = r.Intn(10)
	}
	if r.Intn(8) == 0 && x.Kind != api.Skip {
		x.Articulations |= api.Fermata
	}
	return x
}

// fill appends events and tuplets with some written length, or reports that it has not found any.
func (r chance) fill(v *api.Voice, ticks, depth int) bool {
	for ticks > 0 {
		if len(v.Events) > 126 {
			return false
		}
		if depth < 3 && r.Intn(5) == 0 && r.tuplet(v, &ticks, depth) {
			continue
		}
		value := api.Value{Log: r.Intn(6), Dots: max(0, r.Intn(6)-3)}
		if n, _ := duration.Ticks(value); n <= ticks && r.Intn(8) > 0 {
			v.Events = append(v.Events, r.event(value, len(v.Events)+1))
			ticks -= n
			continue
		}
		l, e := duration.Decompose(min(ticks, duration.MaxTicks))
		if r.Intn(4) > 0 {
			continue
		}
		if e != api.OK || len(l) == 0 {
			return false
		}
		n, _ := duration.Ticks(l[len(l)-1])
		v.Events = append(v.Events, r.event(l[len(l)-1], len(v.Events)+1))
		ticks -= n
	}
	return true
}

// tuplet appends a tuplet that lasts at most as long as there is time, which is reduced.
func (r chance) tuplet(v *api.Voice, ticks *int, depth int) bool {
	t := api.Tuplet{First: len(v.Events), Actual: 2 + r.Intn(6), Normal: 1 + r.Intn(7)}
	unit, _ := duration.Ticks(api.Value{Log: 2 + r.Intn(4)})
	if t.Actual == t.Normal || unit*t.Normal > *ticks || len(v.Tuplets) > 15 {
		return false
	}
	place := len(v.Tuplets)
	v.Tuplets = append(v.Tuplets, t)
	if !r.fill(v, unit*t.Actual, depth+1) {
		*ticks = 0
		return false
	}
	v.Tuplets[place].Count = len(v.Events) - t.First
	*ticks -= unit * t.Normal
	return true
}

// voice returns a valid voice of a measure that is present.
func (r chance) voice(length int) api.Voice {
	for range 200 {
		var v api.Voice
		if r.Intn(20) == 0 {
			v.Events = []api.Event{{ID: api.ID{Number: 1}, Kind: api.MeasureRest, Dynamic: r.Intn(3)}}
		} else if !r.fill(&v, length, 0) {
			continue
		}
		if Check(v, length) == api.OK {
			return v
		}
	}
	return api.Voice{Events: []api.Event{{Kind: api.MeasureRest}}}
}

func (r chance) place() Place {
	p := in([]string{"4/4", "3/4", "6/8", "2/4", "7/8", "2+2+3/8", "5/16", "12/8", "4/1", "1/64"}[r.Intn(10)])
	switch r.Intn(6) {
	case 0:
		p.Length = (1 + r.Intn(2048)) * finest
		p.Offset, _ = metre.Offset(p.Metre, p.Length)
	case 1:
		p.Length = (1 + r.Intn(256)) * finest
		p.Offset = r.Intn(2048) * finest
	case 2:
		p.Length = (8 + r.Intn(1024)) * 945
		p.Offset = r.Intn(2) * r.Intn(MaxLength+1)
	}
	return p
}

// tick returns a tick of a measure, or near it.
func (r chance) tick(s sheet, length int) int {
	switch n := r.Intn(20); {
	case n < 10:
		return s.events[r.Intn(len(s.events))].on
	case n < 17:
		return r.Intn(length/finest+1) * finest
	case n == 17:
		return r.Intn(length + 1)
	case n == 18:
		return length
	}
	return r.Intn(3*length) - length
}

// split returns a voice divided at a few ticks, so that it has runs.
func (r chance) split(v api.Voice, p Place) api.Voice {
	for range r.Intn(5) {
		if d, e := Divide(v, p, r.Intn(p.Length/finest+1)*finest); e == api.OK {
			v = d
		}
	}
	return v
}

// sounds returns what sounds, tick by tick as far as something changes: pitches and what is silent.
func (s sheet) sounds(ticks []int) [][]api.Pitch {
	var l [][]api.Pitch
	for _, t := range ticks {
		var pitches []api.Pitch
		for _, a := range s.events {
			if a.on <= t && t < a.off {
				for _, h := range a.x.Heads {
					pitches = append(pitches, h.Pitch)
				}
			}
		}
		l = append(l, pitches)
	}
	return l
}

// model is what random voices are compared with.
type model struct {
	*testing.T
	chance
	v     api.Voice
	s     sheet
	p     Place
	count map[string]int
}

// agree compares a result with the one of the model. A result is valid.
func (m model) agree(name string, got, want api.Voice, e, f api.Errno) {
	m.Helper()
	if e != api.OK {
		want = api.Voice{}
	}
	if !same(got, want) || e != f {
		m.Fatalf("%s of %s in %v = %s, %d; want %s, %d", name, write(m.v), m.p, write(got), e, write(want), f)
	}
	m.count[name+" "+strconv.Itoa(int(e))]++
	if len(got.Events) > 0 && name != "Cut" {
		if _, ok := unroll(got, m.p.Length); !ok || Check(got, m.p.Length) != api.OK {
			m.Fatalf("%s of %s in %v = %s is not valid", name, write(m.v), m.p, write(got))
		}
	}
}

// silence compares what two voices of the measure sound.
func (m model) silence(name string, got api.Voice) {
	s, _ := unroll(got, m.p.Length)
	ticks := []int{m.p.Length - 1}
	for _, a := range slices.Concat(s.events, m.s.events) {
		ticks = append(ticks, a.on, a.on+1, a.off-1)
	}
	if !slices.EqualFunc(s.sounds(ticks), m.s.sounds(ticks), slices.Equal) {
		m.Fatalf("%s of %s in %v = %s sounds otherwise", name, write(m.v), m.p, write(got))
	}
}

func (m model) checkDivide() {
	tick := m.tick(m.s, m.p.Length)
	want, f := m.s.divided(m.p, tick)
	if tick < 0 || tick > m.p.Length {
		f = api.ErrRange
	}
	got, e := Divide(m.v, m.p, tick)
	m.agree("Divide", got, want.roll(0, m.p.Length), e, f)
	if e == api.OK {
		m.silence("Divide", got)
	}
}

func (m model) checkCut() {
	from, to := m.tick(m.s, m.p.Length), m.tick(m.s, m.p.Length)
	if from > to && m.Intn(20) > 0 {
		from, to = to, from
	}
	d, f := m.s.parted(m.p, from, to)
	cut, e := Cut(m.v, m.p, from, to)
	m.agree("Cut", cut, d.roll(from, to), e, f)
	m.checkErase(from, to, f)
	if e != api.OK {
		return
	}
	joined := true
	for i := range len(m.v.Events) - 1 {
		joined = joined && event.Joins(m.v.Events[i], m.v.Events[i+1])
	}
	if joined && from < to && m.v.Events[0].Kind != api.MeasureRest {
		back, e := Put(m.v, m.p, from, to, cut)
		m.agree("Put back", back, d.roll(0, m.p.Length), e, api.OK)
	}
	if from == to {
		back, e := Put(m.v, m.p, from, to, cut)
		m.agree("Put nothing", back, m.v, e, api.OK)
		return
	}
	x := m.split(m.voice(to-from), Place{m.p.Metre, 0, to - from})
	if x.Events[0].Kind == api.MeasureRest {
		return
	}
	s, _ := unroll(x, to-from)
	want, f := m.s.put(m.p, from, to, s)
	got, e := Put(m.v, m.p, from, to, x)
	m.agree("Put", got, want, e, f)
}

// checkErase erases what can be cut with an error.
func (m model) checkErase(from, to int, f api.Errno) {
	var want api.Voice
	switch {
	case f != api.OK:
	case from == 0 && to == m.p.Length:
		want.Events = []api.Event{{Kind: api.MeasureRest}}
	case (m.p.Offset+from)%finest != 0 || (m.p.Offset+to)%finest != 0:
		f = api.ErrTick
	case from == to:
		want = m.v
	default:
		moved := Place{m.p.Metre, m.p.Offset + from, to - from}
		rests := laid(api.Event{Kind: api.Rest}, moved, 0, to-from, false, false)
		want, f = m.s.put(m.p, from, to, sheet{events: rests})
	}
	got, e := Erase(m.v, m.p, from, to)
	m.agree("Erase", got, want, e, f)
}

func (m model) checkSimplify() {
	got, e := Simplify(m.v, m.p)
	m.agree("Simplify", got, m.s.simplified(m.p), e, api.OK)
	m.silence("Simplify", got)
	if again, _ := Simplify(got, m.p); !same(again, got) {
		m.Fatalf("Simplify of %s in %v = %s", write(got), m.p, write(again))
	}
	if len(got.Events) < len(m.v.Events) {
		m.count["Simplify fewer"]++
	}
}

func (m model) checkAt() {
	tick := m.tick(m.s, m.p.Length)
	i := slices.IndexFunc(m.s.events, func(a timed) bool { return a.on <= tick && tick < a.off })
	index, onset, e := At(m.v, m.p.Length, tick)
	heads := Sounding(m.v, m.p.Length, tick)
	if i < 0 {
		if index != 0 || onset != 0 || e != api.ErrRange || len(heads) > 0 {
			m.Fatalf("At(%s, %d) = %d, %d, %d", write(m.v), tick, index, onset, e)
		}
		return
	}
	if index != i || onset != m.s.events[i].on || e != api.OK || !slices.Equal(heads, m.v.Events[i].Heads) {
		m.Fatalf("At(%s, %d) = %d, %d, %d; want %d", write(m.v), tick, index, onset, e, i)
	}
}

// P12.3, P12.5 to P12.9, P12.11: random voices, compared with the model.
func TestRandom(t *testing.T) {
	count := map[string]int{}
	r := chance{rand.New(rand.NewSource(12))}
	for range 10000 {
		p := r.place()
		v := r.split(r.voice(p.Length), p)
		s, ok := unroll(v, p.Length)
		if !ok {
			t.Fatalf("%s in %v is not valid", write(v), p)
		}
		before := Clone(v)
		m := model{t, r, v, s, p, count}
		m.checkAt()
		m.checkDivide()
		m.checkCut()
		m.checkSimplify()
		if !same(v, before) {
			t.Fatalf("%s has become %s", write(before), write(v))
		}
	}
	for _, name := range []string{"Divide 0", "Divide 2", "Divide 16", "Divide 27", "Cut 0", "Cut 2", "Cut 16", "Cut 27", "Put 0", "Put back 0", "Put nothing 0", "Erase 0", "Erase 16", "Simplify 0", "Simplify fewer"} {
		if count[name] < 20 {
			t.Errorf("%s: %d", name, count[name])
		}
	}
}

// garbage returns a voice that is rarely valid.
func (r chance) garbage() api.Voice {
	some := func(n int) int {
		if r.Intn(12) == 0 {
			return []int{-1 << 63, -1 << 32, -2, 1 << 32, 1<<63 - 1}[r.Intn(5)]
		}
		return r.Intn(n+2) - r.Intn(2)
	}
	v := r.split(r.voice(whole), four)
	for range r.Intn(3) {
		x := &v.Events[r.Intn(len(v.Events))]
		switch r.Intn(7) {
		case 0:
			x.Kind = some(4)
		case 1:
			x.Value = api.Value{Log: some(8), Dots: some(3)}
		case 2:
			x.Heads = append(slices.Clone(x.Heads), api.Head{Pitch: api.Pitch{Step: some(6), Alter: some(2), Octave: some(9)}, Show: some(2)})
		case 3:
			x.Articulations = some(31)
		case 4:
			v.Events = slices.Repeat(v.Events, 1+r.Intn(3))
		case 5:
			v.Tuplets = append(slices.Clone(v.Tuplets), api.Tuplet{First: some(3), Count: some(3), Actual: some(6), Normal: some(6)})
		case 6:
			v.Events = nil
			return v
		}
	}
	return v
}

// P1: whatever the arguments are, no function panics, and with an error there is nothing else.
func TestGarbage(t *testing.T) {
	r := chance{rand.New(rand.NewSource(1))}
	far := func(n int) int {
		if r.Intn(5) == 0 {
			return []int{-1 << 63, -1, 0, MaxLength + 1, 1 << 32, 1<<63 - 1}[r.Intn(6)]
		}
		return n
	}
	for range 20000 {
		v, x := r.garbage(), r.garbage()
		p := Place{four.Metre, far(0), far(whole)}
		if r.Intn(10) == 0 {
			p.Metre = api.Metre{Count: far(4), Unit: far(4), Groups: [6]int{far(0), far(0)}}
		}
		from, to := far(r.Intn(5)*quarter), far(r.Intn(5)*quarter)
		divided, e1 := Divide(v, p, from)
		cut, e2 := Cut(v, p, from, to)
		put, e3 := Put(v, p, from, to, x)
		erased, e4 := Erase(v, p, from, to)
		simple, e5 := Simplify(v, p)
		var notes, rests api.Voice
		var e6, e7 api.Errno
		rests.Events, e6 = Rests(p.Metre, from, to)
		if len(x.Events) > 0 {
			notes.Events, e7 = Notes(x.Events[0], p.Metre, from, to)
		}
		results := []api.Voice{divided, cut, put, erased, simple, rests, notes}
		for i, e := range []api.Errno{e1, e2, e3, e4, e5, e6, e7} {
			if e != api.OK && !same(results[i], api.Voice{}) || Check(v, p.Length) != api.OK && i < 5 && e == api.OK {
				t.Fatalf("%d: %v, %v, %d, %d, %v: %v, %d", i, v, p, from, to, x, results[i], e)
			}
		}
		index, onset, e := At(v, p.Length, from)
		if e != api.OK && (index != 0 || onset != 0 || len(Sounding(v, p.Length, from)) > 0) {
			t.Fatalf("At(%v, %d, %d) = %d, %d, %d", v, p.Length, from, index, onset, e)
		}
	}
}
