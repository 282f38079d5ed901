package measure

import (
	"math/rand"
	"slices"
	"testing"

	"hemiola/api"
	"hemiola/duration"
	"hemiola/metre"
)

// drawn is an event as it is seen on paper: from a tick to another one, and in a triplet with a number, or in none (0).
type drawn struct {
	on, off, triplet int
	x                api.Event
}

// staff is the voices of a cell; a nil voice is absent, and resting voices have one measure rest.
type staff [][]drawn

// chance makes random measures.
type chance struct{ *rand.Rand }

func (r chance) place() (m api.Measure, length, offset int) {
	m.Metre = sign([]string{"4/4", "3/4", "6/8", "2/4", "7/8", "2+2+3/8", "5/16", "12/8", "4/1", "64/1"}[r.Intn(10)])
	usual, _ := metre.Length(m.Metre)
	if r.Intn(3) == 0 || usual > longest {
		m.Length = (1 + r.Intn(400)) * finest
	}
	if r.Intn(3) == 0 {
		m.Length = min(longest, (1+r.Intn(2*usual/finest))*finest)
	}
	length = m.Length
	if length == 0 {
		length = usual
	}
	return m, length, max(0, usual-length)
}

func (r chance) event(v api.Value, id *int) api.Event {
	x := api.Event{Kind: []int{api.Chord, api.Chord, api.Rest, api.Skip}[r.Intn(4)], Value: v}
	if r.Intn(3) > 0 {
		*id++
		x.ID = api.ID{Site: r.Intn(2), Number: *id}
	}
	if x.Kind == api.Chord {
		for range 1 + r.Intn(3) {
			p := api.Pitch{Step: len(x.Heads) * 2, Octave: 4}
			x.Heads = append(x.Heads, api.Head{Pitch: p, Tied: r.Intn(2) == 0, Show: r.Intn(3)})
		}
		x.Stem, x.Beam, x.Ornament = r.Intn(3), r.Intn(3), r.Intn(5)
	}
	return x
}

// voice makes the events of a voice.
func (r chance) voice(length int, id *int) []drawn {
	if r.Intn(6) == 0 {
		return []drawn{{0, length, 0, api.Event{ID: api.ID{Number: r.Intn(3)}, Kind: api.MeasureRest}}}
	}
	for {
		var l []drawn
		for at := 0; at < length && len(l) < 140; {
			at = r.some(&l, at, length, id)
		}
		if len(l) <= 128 {
			return l
		}
	}
}

// some appends an event or a triplet at a tick, and returns the tick after it.
func (r chance) some(l *[]drawn, at, length int, id *int) int {
	// A dotted 256th note leads to a tick that is no multiple of the finest value, and a second one back.
	const odd = finest * 3 / 2
	astray, left := at%finest != 0, length-at
	if astray && (left == odd || r.Intn(3) == 0) || !astray && left >= 2*odd && r.Intn(10) == 0 {
		*l = append(*l, drawn{at, at + odd, 0, r.event(api.Value{Log: 8, Dots: 1}, id)})
		return at + odd
	}
	if astray {
		length -= odd
	}
	v := api.Value{Log: r.Intn(9)}
	if length-at > whole || r.Intn(4) > 0 {
		v.Log = r.Intn(4)
	}
	ticks, _ := duration.Ticks(v)
	if ticks > length-at {
		for ticks = longest; ticks > length-at || ticks > whole; ticks /= 2 {
		}
		v, _ = duration.Find(ticks)
	}
	if dotted := ticks * 3 / 2; v.Log < 8 && r.Intn(4) == 0 && dotted <= length-at {
		ticks, v.Dots = dotted, 1
	}
	if v.Dots == 0 && v.Log < 8 && r.Intn(4) == 0 {
		// notes of half the value, three of which last as long as two
		unit, third := api.Value{Log: v.Log + 1}, ticks/3
		double := r.Intn(4)
		for k := 0; k < 3; k++ {
			t := drawn{at + k*third, at + (k+1)*third, at + 1, r.event(unit, id)}
			if k == double && k < 2 {
				t.x.Value, t.off = v, t.off+third
				k++
			}
			*l = append(*l, t)
		}
		return at + ticks
	}
	*l = append(*l, drawn{at, at + ticks, 0, r.event(v, id)})
	return at + ticks
}

// write returns the voice that is seen on paper.
func write(l []drawn) api.Voice {
	var v api.Voice
	for i, a := range l {
		v.Events = append(v.Events, a.x)
		switch {
		case a.triplet == 0:
		case i > 0 && l[i-1].triplet == a.triplet:
			v.Tuplets[len(v.Tuplets)-1].Count++
		default:
			v.Tuplets = append(v.Tuplets, api.Tuplet{First: i, Count: 1, Actual: 3, Normal: 2})
		}
	}
	return bare(v)
}

// triplets is the number of triplets of a voice.
func triplets(l []drawn) int { return len(write(l).Tuplets) }

// measure makes a random measure, and what is seen on paper.
func (r chance) measure() (m api.Measure, length, offset int, paper []staff) {
	m, length, offset = r.place()
	id := 0
	for range 1 + r.Intn(3) {
		var s staff
		var c api.Cell
		for k := range 1 + r.Intn(2) {
			l := r.voice(length, &id)
			for triplets(l) > api.MaxTuplets {
				l = r.voice(length, &id)
			}
			if k == 0 && r.Intn(8) == 0 {
				l = nil
			}
			s, c.Voices = append(s, l), append(c.Voices, write(l))
		}
		for range r.Intn(3) {
			c.Clefs = append(c.Clefs, api.ClefChange{At: r.Intn(length), Clef: 1 + r.Intn(9)})
		}
		paper, m.Cells = append(paper, s), append(m.Cells, c)
	}
	m.Tempi = []api.TempoMark{{At: r.Intn(length), Micros: 1}}[:r.Intn(2)]
	return m, length, offset, paper
}

// P13.3, P13.10
func TestSlotsModel(t *testing.T) {
	r := chance{rand.New(rand.NewSource(1))}
	for range 1500 {
		m, length, _, paper := r.measure()
		var slots []Slot
		var columns []int
		first := map[api.ID]Slot{}
		for i, s := range paper {
			for k, l := range s {
				for n, a := range l {
					slot := Slot{i, k, n, a.on, a.off}
					slots, columns = append(slots, slot), append(columns, a.on)
					if _, ok := first[a.x.ID]; !ok && a.x.ID != (api.ID{}) {
						first[a.x.ID] = slot
					}
				}
			}
		}
		slices.Sort(columns)
		columns = slices.Compact(columns)
		if got, e := Slots(m); !slices.Equal(got, slots) || e != api.OK {
			t.Fatalf("Slots(%v) = %v, %d; want %v", m, got, e, slots)
		}
		if got, e := Columns(m); !slices.Equal(got, columns) || e != api.OK {
			t.Fatalf("Columns(%v) = %v, %d; want %v", m, got, e, columns)
		}
		for id, slot := range first {
			if got, ok := Find(m, id); got != slot || !ok {
				t.Fatalf("Find(%v, %v) = %v; want %v", m, id, got, slot)
			}
		}
		for _, slot := range slots {
			for _, tick := range []int{slot.On, slot.Off - 1, slot.On + r.Intn(slot.Off-slot.On)} {
				if got, e := At(m, slot.Staff, slot.Voice, tick); got != slot || e != api.OK {
					t.Fatalf("At(%v, %v, %d) = %v, %d", m, slot, tick, got, e)
				}
			}
		}
		if n, e := Length(m); n != length || e != api.OK {
			t.Fatalf("Length(%v) = %d, %d", m, n, e)
		}
	}
}

// laid is the notes of an event in a measure that begins at an offset of a metre; all of them are tied if the event is divided.
func laid(x api.Event, m api.Metre, offset, from, to int) []drawn {
	values, e := metre.Split(m, offset+from, offset+to)
	if e != api.OK {
		panic(e)
	}
	var l []drawn
	for i, v := range values {
		n := bare(x)
		if i > 0 {
			n = api.Event{Kind: x.Kind, Stem: x.Stem}
			for _, h := range x.Heads {
				n.Heads = append(n.Heads, api.Head{Pitch: h.Pitch})
			}
		}
		for k := range n.Heads {
			n.Heads[k].Tied = true
		}
		n.Value = v
		ticks, _ := duration.Ticks(v)
		l = append(l, drawn{from, from + ticks, 0, n})
		from += ticks
	}
	return l
}

// cut is what is left of a voice before a tick.
func cut(l []drawn, m api.Metre, offset, end int) ([]drawn, api.Errno) {
	if offset > longest {
		return nil, api.ErrRange
	}
	var left []drawn
	for i, a := range l {
		switch {
		case a.off <= end:
			left = append(left, a)
		case a.on < end && a.triplet != 0:
			return nil, api.ErrFit
		case a.on < end:
			for _, tick := range []int{a.on, end, a.off} {
				if (offset+tick)%finest != 0 {
					return nil, api.ErrTick
				}
			}
			notes := laid(a.x, m, offset, a.on, end)
			if len(l)-1+len(notes)+len(laid(a.x, m, offset, end, a.off)) > 128 {
				return nil, api.ErrLimit
			}
			left = append(left, notes...)
		case a.on == end && i > 0 && a.triplet != 0 && l[i-1].triplet == a.triplet:
			return nil, api.ErrFit
		}
	}
	return left, api.OK
}

// grown is a voice with rests after it.
func grown(l []drawn, m api.Metre, offset, old, length int) ([]drawn, api.Errno) {
	l = append(slices.Clone(l), laid(api.Event{Kind: api.Rest}, m, offset, old, length)...)
	if len(l) > 128 {
		return nil, api.ErrLimit
	}
	return l, api.OK
}

// fitModel returns what is seen on paper after Fit, and the first error.
func fitModel(m api.Measure, paper []staff, old, oldOffset int, to api.Metre, length, offset int) (api.Measure, api.Errno) {
	n := bare(m)
	for i, s := range paper {
		for k, l := range s {
			var e api.Errno
			switch {
			case len(l) == 0 || l[0].x.Kind == api.MeasureRest:
			case length < old:
				l, e = cut(l, m.Metre, oldOffset, length)
			case length > old:
				l, e = grown(l, to, offset, old, length)
			}
			if e != api.OK {
				return api.Measure{}, e
			}
			n.Cells[i].Voices[k] = write(l)
		}
		n.Cells[i].Clefs = nil
		for _, c := range m.Cells[i].Clefs {
			if c.At < length {
				n.Cells[i].Clefs = append(n.Cells[i].Clefs, c)
			}
		}
	}
	if len(m.Tempi) > 0 && m.Tempi[0].At >= length {
		n.Tempi = nil
	}
	return n, api.OK
}

// P13.7, P13.10
func TestFitModel(t *testing.T) {
	r := chance{rand.New(rand.NewSource(2))}
	count := map[api.Errno]int{}
	for range 3000 {
		m, old, oldOffset, paper := r.measure()
		to, length, offset := r.place()
		if r.Intn(3) == 0 && old > finest { // a little less
			length = old - finest*(1+r.Intn(min(64, old/finest-1)))
			to.Length = length
			usual, _ := metre.Length(to.Metre)
			offset = max(0, usual-length)
		}
		want, f := fitModel(m, paper, old, oldOffset, to.Metre, length, offset)
		if f == api.OK {
			want.Metre, want.Length = to.Metre, to.Length
			if usual, _ := metre.Length(to.Metre); length == usual {
				want.Length = 0
			}
		}
		before := bare(m)
		got, e := Fit(m, to.Metre, to.Length)
		if !same(got, want) || e != f {
			t.Fatalf("Fit(%v; %v, %d) = %v, %d; want %v, %d", m, to.Metre, to.Length, got, e, want, f)
		}
		count[e]++
		if !same(m, before) {
			t.Fatalf("Fit has changed %v", before)
		}
		fresh(t, "Fit", got, m)
		if e != api.OK {
			continue
		}
		if length > old {
			count[api.ErrArgument]++
			back(t, m, got, old, offset)
		}
		covered(t, got, length)
	}
	if count[api.OK] < 500 || count[api.ErrFit] < 100 || count[api.ErrTick] < 50 || count[api.ErrRange] < 10 || count[api.ErrArgument] < 500 {
		t.Error(count)
	}
}

// back fits a measure that has been made longer to its first length again, and a measure to its own length.
func back(t *testing.T, m, longer api.Measure, length, offset int) {
	t.Helper()
	n, e := Fit(longer, m.Metre, m.Length)
	resting := true
	for _, c := range m.Cells {
		for _, v := range c.Voices {
			resting = resting && (len(v.Events) == 0 || v.Events[0].Kind == api.MeasureRest)
		}
	}
	if offset > longest && !resting {
		if e != api.ErrRange {
			t.Fatalf("Fit(%v) back = %d", longer, e)
		}
		return
	}
	if !same(n.Cells, m.Cells) || !same(n.Tempi, m.Tempi) || e != api.OK {
		t.Fatalf("Fit(%v) back to %d = %v, %d; want %v", longer, length, n, e, m)
	}
	if n, e := Fit(m, m.Metre, length); !same(n.Cells, m.Cells) || e != api.OK {
		t.Fatalf("Fit(%v) to itself = %v, %d", m, n, e)
	}
}

// covered checks that the events of the voices follow one another without gaps.
func covered(t *testing.T, m api.Measure, length int) {
	t.Helper()
	slots, e := Slots(m)
	if e != api.OK {
		t.Fatalf("Slots(%v) = %d", m, e)
	}
	for i, s := range slots {
		last := i+1 == len(slots) || slots[i+1].Event == 0
		if s.Event == 0 && s.On != 0 || s.Off <= s.On || last && s.Off != length || !last && s.Off != slots[i+1].On {
			t.Fatalf("the slots of %v have gaps: %v", m, slots)
		}
	}
}

// P13.4, P13.6, P13.8: what is looked up and set in random measures.
func TestStavesModel(t *testing.T) {
	r := chance{rand.New(rand.NewSource(3))}
	for range 1500 {
		m, length, _, paper := r.measure()
		for i, c := range m.Cells {
			slices.SortFunc(c.Clefs, func(a, b api.ClefChange) int { return a.At - b.At })
			tick, before := r.Intn(length), 1+r.Intn(9)
			want, at := before, -1
			for _, x := range c.Clefs {
				if x.At <= tick && x.At >= at {
					want, at = x.Clef, x.At
				}
			}
			if n, e := ClefAt(m, i, before, tick); n != want || e != api.OK {
				t.Fatalf("ClefAt(%v, %d, %d, %d) = %d, %d; want %d", m, i, before, tick, n, e, want)
			}
			silent := true
			for _, l := range paper[i] {
				for _, a := range l {
					silent = silent && a.x.Kind != api.Chord
				}
			}
			if Silent(m, i) != silent {
				t.Fatalf("Silent(%v, %d) = %t", m, i, !silent)
			}
		}
		staff, voice, id := r.Intn(len(m.Cells)), r.Intn(2), 1000
		v := write(r.voice(length, &id))
		if len(v.Tuplets) > api.MaxTuplets {
			continue
		}
		n, e := SetVoice(m, staff, voice, v)
		want := bare(m)
		if c := &want.Cells[staff]; len(c.Voices) == 1 && voice == 1 {
			c.Voices = append(c.Voices, v)
		} else {
			c.Voices[voice] = v
		}
		if !same(n, want) || e != api.OK {
			t.Fatalf("SetVoice(%v, %d, %d, %v) = %v, %d", m, staff, voice, v, n, e)
		}
		fresh(t, "SetVoice", n, m, v)
	}
}

// P1, P13.8, P13.9: no argument makes a function panic, and errors come with zero values.
func TestAnything(t *testing.T) {
	r := chance{rand.New(rand.NewSource(4))}
	for range 3000 {
		m, _, _, _ := r.measure()
		for range 1 + r.Intn(4) {
			spoil(r, &m)
		}
		before := bare(m)
		if l, e := Slots(m); e != api.OK && len(l) > 0 {
			t.Fatal(l, e)
		}
		if l, e := Columns(m); e != api.OK && len(l) > 0 {
			t.Fatal(l, e)
		}
		if s, e := At(m, r.Intn(4)-1, r.Intn(4)-1, r.Intn(whole)); e != api.OK && s != (Slot{}) {
			t.Fatal(s, e)
		}
		if n, e := SetVoice(m, r.Intn(4)-1, r.Intn(4)-1, api.Voice{Events: []api.Event{{Kind: r.Intn(5)}}}); e != api.OK && !same(n, api.Measure{}) {
			t.Fatal(n, e)
		}
		to, _, _ := r.place()
		if n, e := Fit(m, to.Metre, to.Length); e != api.OK && !same(n, api.Measure{}) {
			t.Fatal(n, e)
		}
		Check(m, len(m.Cells))
		Find(m, api.ID{Number: 1})
		if l := IDs(m); !same(Clone(m), m) || !Equal(m, Clone(m)) || len(l) == 0 || !same(before, m) {
			t.Fatal(m)
		}
	}
}

// spoil changes something in a measure.
func spoil(r chance, m *api.Measure) {
	junk := []int{-1 << 63, -1, 0, 1, 3, 127, 1 << 42, 1<<63 - 1}[r.Intn(8)]
	c := &m.Cells[r.Intn(len(m.Cells))]
	switch k := r.Intn(9); {
	case k == 0:
		m.Length = junk
	case k == 1:
		m.Metre.Groups[r.Intn(6)] = junk
	case k == 2:
		c.Voices = append(c.Voices, api.Voice{Tuplets: []api.Tuplet{{First: junk, Count: junk, Actual: junk, Normal: junk}}})
	case k == 3:
		c.Voices = nil
	case k == 4:
		c.Clefs = append(c.Clefs, api.ClefChange{At: junk, Clef: junk})
	case len(c.Voices) > 0 && len(c.Voices[0].Events) > 0:
		l := c.Voices[0].Events
		x := &l[r.Intn(len(l))]
		switch k {
		case 5:
			x.Value.Log = junk
		case 6:
			x.Kind = junk
		case 7:
			x.Heads = append(x.Heads, api.Head{Pitch: api.Pitch{Step: junk}})
		case 8:
			c.Voices[0].Tuplets = append(c.Voices[0].Tuplets, api.Tuplet{First: junk, Count: junk, Actual: 3, Normal: 2})
		}
	}
}
