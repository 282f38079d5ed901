package timeline

import (
	"math/rand"
	"slices"
	"testing"

	"hemiola/api"
	"hemiola/check"
	"hemiola/pitch"
	"hemiola/score"
	"hemiola/spanner"
)

// seen is an event as it is seen on paper: its measure, staff and voice, and from which tick of the score to which it lasts.
type seen struct {
	measure, staff, voice, on, off int
	x                              *api.Event
}

// chance makes random valid scores.
type chance struct{ *rand.Rand }

// event makes a chord or a rest, with pitches of which some have the same number.
func (r chance) event(v api.Value) api.Event {
	x := api.Event{Kind: api.Rest, Value: v}
	if r.Intn(5) == 0 {
		return x
	}
	x.Kind = api.Chord
	for _, choices := range [][]string{{"C4", "B#3"}, {"E4", "Fb4", "D##4"}, {"A4"}, {"C#5", "Db5"}} {
		if r.Intn(2) == 0 {
			p, _, _ := pitch.Parse(choices[r.Intn(5)/4*r.Intn(len(choices))])
			x.Heads = append(x.Heads, api.Head{Pitch: p})
		}
	}
	if len(x.Heads) == 0 {
		x.Heads = []api.Head{{Pitch: api.Pitch{Step: 4, Octave: 4}}}
	}
	return x
}

// voice makes a voice of a number of quarters, and the lengths of its events.
func (r chance) voice(quarters int) (v api.Voice, lengths []int) {
	if r.Intn(8) == 0 {
		return api.Voice{Events: []api.Event{{Kind: api.MeasureRest}}}, []int{quarters * quarter}
	}
	for left := quarters; left > 0; left-- {
		switch k := r.Intn(5); {
		case k == 0:
			v.Tuplets = append(v.Tuplets, api.Tuplet{First: len(v.Events), Count: 3, Actual: 3, Normal: 2})
			for range 3 {
				v.Events = append(v.Events, r.event(api.Value{Log: 3}))
				lengths = append(lengths, quarter/3)
			}
		case k == 1 && left > 1:
			v.Events = append(v.Events, r.event(api.Value{Log: 1}))
			lengths = append(lengths, half)
			left--
		case k == 2:
			v.Events = append(v.Events, r.event(api.Value{Log: 3, Dots: 1}), r.event(api.Value{Log: 4}))
			lengths = append(lengths, eighth*3/2, eighth/2)
		default:
			v.Events = append(v.Events, r.event(api.Value{Log: 2}))
			lengths = append(lengths, quarter)
		}
	}
	return v, lengths
}

// score makes a valid score, and what is seen on paper.
func (r chance) score() (s api.Score, paper []seen) {
	staves := 0
	for range 1 + r.Intn(3) {
		n := 1 + r.Intn(2)
		staves += n
		p := api.Part{Transpose: []api.Interval{{}, {Steps: 1, Semitones: 2}, {Steps: -7, Semitones: -12}, {Steps: 2, Semitones: 3}}[r.Intn(4)]}
		for range n {
			p.Staves = append(p.Staves, api.Staff{Clef: 1 + r.Intn(9)})
		}
		s.Parts = append(s.Parts, p)
	}
	s.Written = r.Intn(2) == 0
	var lengths []int
	for range 1 + r.Intn(4) {
		quarters := 1 + r.Intn(5)
		m := api.Measure{Metre: api.Metre{Count: quarters, Unit: 4}, Fifths: r.Intn(15) - 7}
		if r.Intn(4) == 0 {
			m.Metre.Count, m.Length = 4, quarters*quarter
		}
		for range staves {
			var c api.Cell
			for range 1 + r.Intn(2) {
				v, l := r.voice(quarters)
				c.Voices, lengths = append(c.Voices, v), append(lengths, l...)
			}
			for tick := r.Intn(3 * quarter); tick < quarters*quarter && r.Intn(2) == 0; tick += 1 + r.Intn(2*quarter) {
				c.Clefs = append(c.Clefs, api.ClefChange{At: tick * r.Intn(2) * (1 - min(1, len(c.Clefs))), Clef: 1 + r.Intn(9)})
				if k := len(c.Clefs); k > 1 {
					c.Clefs[k-1].At = max(tick, c.Clefs[k-2].At+1)
				}
			}
			m.Cells = append(m.Cells, c)
		}
		s.Measures = append(s.Measures, m)
	}
	s = score.Renumber(s)
	start, i := 0, 0
	for k, m := range s.Measures {
		end := start
		for staff, c := range m.Cells {
			for voice, v := range c.Voices {
				at := start
				for n := range v.Events {
					paper = append(paper, seen{k, staff, voice, at, at + lengths[i], &v.Events[n]})
					at += lengths[i]
					i++
				}
				end = at
			}
		}
		start = end
	}
	r.tie(paper)
	r.span(&s, paper)
	return s, paper
}

// following is the next event of the voice, if there is one.
func following(paper []seen, a seen) *seen {
	for i, b := range paper {
		if b.staff == a.staff && b.voice == a.voice && b.on == a.off {
			return &paper[i]
		}
	}
	return nil
}

// has reports whether an event has a head with a pitch.
func has(x *api.Event, p api.Pitch) bool {
	return slices.ContainsFunc(x.Heads, func(h api.Head) bool { return h.Pitch == p })
}

// tie ties some heads whose pitches occur again in the next event.
func (r chance) tie(paper []seen) {
	for _, a := range paper {
		next := following(paper, a)
		for i, h := range a.x.Heads {
			a.x.Heads[i].Tied = next != nil && has(next.x, h.Pitch) && r.Intn(3) > 0
		}
	}
}

// span adds a few spanners, as far as they keep the score valid.
func (r chance) span(s *api.Score, paper []seen) {
	for range r.Intn(5) {
		from := r.Intn(len(paper))
		to := min(len(paper)-1, from+r.Intn(6))
		n := score.Clone(*s)
		join(&n, 1+r.Intn(7), paper[from].x.ID.Number, paper[to].x.ID.Number)
		if check.Valid(n) {
			s.Spanners, s.Last = n.Spanners, n.Last
		}
	}
}

// partOf is the part of a staff, and the index of the staff in it.
func partOf(s api.Score, staff int) (part, index int) {
	for part = range s.Parts {
		for index = range s.Parts[part].Staves {
			if staff == 0 {
				return part, index
			}
			staff--
		}
	}
	panic("no such staff")
}

// notes are the sounding notes by their definition, each head on its own.
func notes(s api.Score, paper []seen) []api.Note {
	var l []api.Note
	for _, a := range paper {
		part, staff := partOf(s, a.staff)
		for i, h := range a.x.Heads {
			held := false
			for _, b := range paper {
				if b.staff == a.staff && b.voice == a.voice && b.off == a.on {
					held = held || slices.ContainsFunc(b.x.Heads, func(g api.Head) bool { return g.Pitch == h.Pitch && g.Tied })
				}
			}
			if held {
				continue
			}
			n, _ := pitch.Number(h.Pitch)
			if s.Written {
				n -= s.Parts[part].Transpose.Semitones
			}
			last := a
			for slices.ContainsFunc(last.x.Heads, func(g api.Head) bool { return g.Pitch == h.Pitch && g.Tied }) {
				last = *following(paper, last)
			}
			l = append(l, api.Note{On: a.on, Off: last.off, Number: n, Part: part, Staff: staff, Voice: a.voice, Event: a.x.ID, Head: i})
		}
	}
	slices.SortFunc(l, func(a, b api.Note) int {
		return slices.Compare(
			[]int{a.On, a.Number, a.Part, a.Staff, a.Voice, a.Off, a.Event.Number, a.Head},
			[]int{b.On, b.Number, b.Part, b.Staff, b.Voice, b.Off, b.Event.Number, b.Head})
	})
	return l
}

// P17.5 to P17.8
func TestNotesModel(t *testing.T) {
	r := chance{rand.New(rand.NewSource(1))}
	long := 0
	for range 600 {
		s, paper := r.score()
		valid(t, s)
		l, e := Notes(s)
		if want := notes(s, paper); !slices.Equal(l, want) || e != api.OK {
			t.Fatalf("Notes(%v) = %v, %d; want %v", s, l, e, want)
		}
		end := paper[len(paper)-1].off
		for _, n := range l {
			if n.On < 0 || n.Off <= n.On || n.Off > end {
				t.Fatalf("%v lies outside of the score", n)
			}
			if n.Off-n.On > 4*quarter {
				long++
			}
		}
		for range 8 {
			// as many notes sound in a voice as the chord that lasts there has heads
			a := paper[r.Intn(len(paper))]
			tick := a.on + r.Intn(a.off-a.on)
			part, staff := partOf(s, a.staff)
			heads := 0
			for _, n := range Part(Sounding(l, tick), part) {
				if n.Staff == staff && n.Voice == a.voice {
					heads++
				}
			}
			if heads != len(a.x.Heads) {
				t.Fatalf("%d notes of %v at %d: %v", heads, a.x, tick, s)
			}
		}
		mixed := slices.Clone(l)
		r.Shuffle(len(mixed), func(i, k int) { mixed[i], mixed[k] = mixed[k], mixed[i] })
		if !slices.Equal(Sort(mixed), l) || !SameSound(mixed, l) {
			t.Fatalf("Sort(%v) = %v", mixed, Sort(mixed))
		}
		if len(l) > 0 {
			i := r.Intn(len(mixed))
			mixed[i].Off++
			if SameSound(mixed, l) || SameSound(l[1:], l) {
				t.Fatal("SameSound of other notes")
			}
		}
	}
	if long < 50 {
		t.Error(long)
	}
}

// P17.8: respelling changes nothing of what sounds, if there are no ties.
func TestRespelled(t *testing.T) {
	r := chance{rand.New(rand.NewSource(2))}
	respelled := 0
	for range 300 {
		s, paper := r.score()
		for _, a := range paper {
			for i := range a.x.Heads {
				a.x.Heads[i].Tied = false
			}
		}
		before, _ := Notes(valid(t, s))
		for _, a := range paper {
			for i, h := range a.x.Heads {
				if p, e := pitch.Respell(h.Pitch, r.Intn(3)-1); e == api.OK && p != h.Pitch {
					a.x.Heads[i].Pitch = p
					respelled++
				}
			}
		}
		if after, e := Notes(valid(t, s)); e != api.OK || !slices.Equal(before, after) || !SameSound(before, after) {
			t.Fatalf("%v, %v", before, after)
		}
	}
	if respelled < 500 {
		t.Error(respelled)
	}
}

// P17.1 to P17.4
func TestPlacesModel(t *testing.T) {
	r := chance{rand.New(rand.NewSource(3))}
	count := map[string]int{}
	for range 600 {
		s, paper := r.score()
		starts, e := Starts(valid(t, s))
		if e != api.OK || len(starts) != len(s.Measures)+1 || starts[len(s.Measures)] != paper[len(paper)-1].off {
			t.Fatal(starts, e)
		}
		places := map[api.ID]spanner.Place{}
		for _, a := range paper {
			places[a.x.ID] = spanner.Place{Measure: a.measure, At: a.on - starts[a.measure], Staff: a.staff, Voice: a.voice}
			m, at, e := At(s, a.on)
			if m != a.measure || at != a.on-starts[m] || e != api.OK {
				t.Fatalf("At(%d) = %d, %d, %d", a.on, m, at, e)
			}
		}
		a := paper[r.Intn(len(paper))]
		if p, e := Place(s, a.x.ID); p != places[a.x.ID] || e != api.OK {
			t.Fatalf("Place(%v) = %v, %d", a.x.ID, p, e)
		}
		spans, e := Spans(s)
		if e != api.OK || len(spans) != len(s.Spanners) {
			t.Fatal(spans, e)
		}
		for i, x := range s.Spanners {
			count["spans"]++
			if spans[i] != (spanner.Span{Kind: x.Kind, From: places[x.From], To: places[x.To]}) {
				t.Fatal(spans[i], x)
			}
		}
		tick := a.on + r.Intn(a.off-a.on)
		want := 0
		for i, x := range s.Spanners {
			from, to := spans[i].From, spans[i].To
			inside := starts[from.Measure]+from.At <= tick && tick <= starts[to.Measure]+to.At
			if from.Staff == a.staff && inside && (x.Kind == 4 || x.Kind == 5) {
				want = map[int]int{4: -7, 5: 7}[x.Kind]
				count["shifts"]++
			}
		}
		if n, e := Shift(s, a.measure, a.staff, tick-starts[a.measure]); n != want || e != api.OK {
			t.Fatalf("Shift(%d, %d, %d) = %d, %d; want %d: %v", a.measure, a.staff, tick, n, e, want, spans)
		}
		held := ""
		for voice := range 2 {
			for _, b := range paper {
				if b.measure == a.measure-1 && b.staff == a.staff && b.voice == voice && b.off == starts[a.measure] {
					for _, h := range b.x.Heads {
						if h.Tied {
							held += heldTexts([]Held{{voice, h.Pitch}}) + ", "
							count["held"]++
						}
					}
				}
			}
		}
		if l, e := HeldInto(s, a.measure, a.staff); len(l) > 0 && heldTexts(l)+", " != held || len(l) == 0 && held != "" || e != api.OK {
			t.Fatalf("HeldInto = %v, %d; want %s", heldTexts(l), e, held)
		}
		contextsModel(t, s)
	}
	if count["spans"] < 300 || count["shifts"] < 10 || count["held"] < 50 {
		t.Error(count)
	}
}

// contextsModel compares the contexts of all staves with the last clef before each measure, and the steps of the line of fifths.
func contextsModel(t *testing.T, s api.Score) {
	t.Helper()
	for staff := range s.Measures[0].Cells {
		part, index := partOf(s, staff)
		clef := s.Parts[part].Staves[index].Clef
		l, e := Contexts(s, staff)
		if e != api.OK || len(l) != len(s.Measures) {
			t.Fatal(l, e)
		}
		for i, m := range s.Measures {
			changes := m.Cells[staff].Clefs
			if len(changes) > 0 && changes[0].At == 0 {
				clef = changes[0].Clef
			}
			fifths := m.Fifths
			if s.Written {
				fifths += map[api.Interval]int{{Steps: 1, Semitones: 2}: 2, {Steps: 2, Semitones: 3}: -3}[s.Parts[part].Transpose]
			}
			if fifths > 7 {
				fifths -= 12
			}
			if fifths < -7 {
				fifths += 12
			}
			if l[i] != (Context{clef, fifths, m.Metre}) {
				t.Fatalf("Contexts(%d)[%d] = %v; want %d, %d", staff, i, l[i], clef, fifths)
			}
			if len(changes) > 0 {
				clef = changes[len(changes)-1].Clef
			}
		}
	}
}

// P1: lists of any notes.
func TestAnyNotes(t *testing.T) {
	r := chance{rand.New(rand.NewSource(4))}
	junk := []int{-1 << 63, -1, 0, 1, 2, 1<<63 - 1}
	n := func() int { return junk[r.Intn(len(junk))] }
	for range 2000 {
		var l []api.Note
		for range r.Intn(6) {
			l = append(l, api.Note{On: n(), Off: n(), Number: n(), Part: n(), Staff: n(), Voice: n(), Event: api.ID{Site: n(), Number: n()}, Head: n()})
		}
		before := slices.Clone(l)
		tick := n()
		for _, x := range Sounding(l, tick) {
			if x.On > tick || x.Off <= tick {
				t.Fatal(x)
			}
		}
		sorted := Sort(l)
		for i := 1; i < len(sorted); i++ {
			if Compare(sorted[i-1], sorted[i]) > 0 || Compare(sorted[i], sorted[i-1]) < 0 {
				t.Fatal(sorted)
			}
		}
		if len(sorted) != len(l) || !SameSound(sorted, l) || !slices.Equal(before, l) || len(Part(l, tick)) > len(l) {
			t.Fatal(l)
		}
	}
}
