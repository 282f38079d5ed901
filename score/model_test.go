package score

import (
	"math/rand"
	"slices"
	"testing"

	"hemiola/api"
)

// chance makes random scores, valid or not.
type chance struct{ *rand.Rand }

// anyID is one of a few ids, so that some occur twice, or the zero id.
func (r chance) anyID() api.ID {
	if r.Intn(8) == 0 {
		return api.ID{}
	}
	return api.ID{Site: r.Intn(3), Number: r.Intn(20)}
}

func (r chance) cell() api.Cell {
	var c api.Cell
	for range r.Intn(3) {
		var v api.Voice
		for range r.Intn(4) {
			v.Events = append(v.Events, named(r.anyID()))
		}
		c.Voices = append(c.Voices, v)
	}
	return c
}

func (r chance) part() api.Part {
	p := api.Part{ID: r.anyID()}
	for range r.Intn(4) {
		p.Staves = append(p.Staves, api.Staff{ID: r.anyID(), Clef: r.Intn(10)})
	}
	return p
}

func (r chance) measure(cells int) api.Measure {
	m := api.Measure{ID: r.anyID(), Fifths: r.Intn(8)}
	for range cells {
		m.Cells = append(m.Cells, r.cell())
	}
	return m
}

func (r chance) score() api.Score {
	var s api.Score
	staves := 0
	for range r.Intn(4) {
		s.Parts = append(s.Parts, r.part())
		staves += len(s.Parts[len(s.Parts)-1].Staves)
	}
	for range r.Intn(5) {
		if r.Intn(12) == 0 {
			staves = r.Intn(5)
		}
		s.Measures = append(s.Measures, r.measure(staves))
	}
	for range r.Intn(6) {
		s.Spanners = append(s.Spanners, api.Spanner{ID: r.anyID(), Kind: r.Intn(8), From: r.anyID(), To: r.anyID()})
	}
	for range r.Intn(4) {
		s.Last = append(s.Last, r.anyID())
	}
	return s
}

// eventIDs are the ids of all events.
func eventIDs(s api.Score) []api.ID {
	var l []api.ID
	for _, m := range s.Measures {
		for _, c := range m.Cells {
			for _, v := range c.Voices {
				for _, x := range v.Events {
					l = append(l, x.ID)
				}
			}
		}
	}
	return l
}

// pruned is a score without the spanners that do not lead from an event to an event.
func pruned(s api.Score) api.Score {
	n := bare(s)
	n.Spanners = nil
	l := eventIDs(s)
	for _, x := range s.Spanners {
		if slices.Contains(l, x.From) && slices.Contains(l, x.To) {
			n.Spanners = append(n.Spanners, x)
		}
	}
	return n
}

// idAt is the id of the object at a place.
func idAt(s api.Score, p Place) api.ID {
	switch p.Kind {
	case Part:
		return s.Parts[p.Part].ID
	case Staff:
		var l []api.Staff
		for _, x := range s.Parts {
			l = append(l, x.Staves...)
		}
		return l[p.Staff].ID
	case Measure:
		return s.Measures[p.Measure].ID
	case Event:
		return s.Measures[p.Measure].Cells[p.Staff].Voices[p.Voice].Events[p.Event].ID
	}
	return s.Spanners[p.Spanner].ID
}

// P15.2, P15.9: Find leads to an object with the id, and none before it has it.
func TestFindModel(t *testing.T) {
	r := chance{rand.New(rand.NewSource(1))}
	for range 2000 {
		s := r.score()
		l := IDs(s)
		var found []Place
		for i, x := range l {
			if x == (api.ID{}) {
				continue
			}
			p, ok := Find(s, x)
			if !ok || idAt(s, p) != x {
				t.Fatalf("Find(%v, %v) = %v, %t", s, x, p, ok)
			}
			if slices.Index(l, x) < i {
				continue
			}
			// The first objects with their ids are found at different places, in order.
			if len(found) > 0 && comparePlaces(found[len(found)-1], p) >= 0 {
				t.Fatalf("%v follows %v", p, found)
			}
			found = append(found, p)
		}
		n := len(s.Parts) + Staves(s) + len(s.Measures) + len(eventIDs(s)) + len(s.Spanners)
		if len(l) != n {
			t.Fatalf("%d ids of %d objects", len(l), n)
		}
	}
}

// comparePlaces compares places by the order of the score; staves follow the part before them.
func comparePlaces(a, b Place) int {
	rank := func(p Place) []int {
		switch p.Kind {
		case Part, Staff: // not told apart by indices alone
			return []int{0}
		case Spanner:
			return []int{2, p.Spanner}
		case Measure:
			return []int{1, p.Measure, -1}
		}
		return []int{1, p.Measure, p.Staff, p.Voice, p.Event}
	}
	if a.Kind <= Staff && b.Kind <= Staff {
		return -1
	}
	return slices.Compare(rank(a), rank(b))
}

// P15.3, P15.9: Next and Previous are inverse.
func TestNextModel(t *testing.T) {
	r := chance{rand.New(rand.NewSource(2))}
	steps := 0
	for range 2000 {
		s := r.score()
		for i, m := range s.Measures {
			for k, c := range m.Cells {
				for v, w := range c.Voices {
					for n := range w.Events {
						p := at(i, k, v, n)
						want, exists := Place{}, false
						switch {
						case n+1 < len(w.Events):
							want, exists = at(i, k, v, n+1), true
						case i+1 < len(s.Measures) && k < len(s.Measures[i+1].Cells) && v < len(s.Measures[i+1].Cells[k].Voices) && len(s.Measures[i+1].Cells[k].Voices[v].Events) > 0:
							want, exists = at(i+1, k, v, 0), true
						}
						q, ok := Next(s, p)
						if q != want || ok != exists {
							t.Fatalf("Next(%v, %v) = %v, %t", s, p, q, ok)
						}
						if back, ok := Previous(s, q); exists && (back != p || !ok) {
							t.Fatalf("Previous(%v, %v) = %v, %t", s, q, back, ok)
						}
						if before, ok := Previous(s, p); ok {
							steps++
							if q, ok := Next(s, before); q != p || !ok {
								t.Fatalf("Next(%v, %v) = %v, %t", s, before, q, ok)
							}
						} else if n > 0 {
							t.Fatalf("Previous(%v, %v) = %v", s, p, before)
						}
					}
				}
			}
		}
	}
	if steps < 1000 {
		t.Error(steps)
	}
}

// P15.4 to P15.6, P15.9: deleting what was inserted yields the pruned score.
func TestEditModel(t *testing.T) {
	r := chance{rand.New(rand.NewSource(3))}
	done := map[string]int{}
	for range 4000 {
		s := r.score()
		before := bare(s)
		fitting := true
		for _, m := range s.Measures {
			fitting = fitting && len(m.Cells) == Staves(s)
		}
		if got := Prune(s); !same(got, pruned(s)) {
			t.Fatalf("Prune(%v) = %v", s, got)
		}
		p, where := r.part(), r.Intn(len(s.Parts)+1)
		var cells [][]api.Cell
		for range s.Measures {
			cells = append(cells, r.measure(len(p.Staves)).Cells)
		}
		got, e := InsertPart(s, where, p, cells)
		if (e == api.OK) != fitting || e != api.OK && e != api.ErrFormat {
			t.Fatalf("InsertPart(%v) = %d", s, e)
		}
		if e == api.OK {
			done["part"]++
			first, _ := First(got, where)
			for i, m := range got.Measures {
				if !same(m.Cells[first:first+len(p.Staves)], cells[i]) || !same(slices.Delete(slices.Clone(m.Cells), first, first+len(p.Staves)), s.Measures[i].Cells) {
					t.Fatalf("InsertPart(%v, %d, %v) = %v", s, where, p, got)
				}
			}
			if back, e := DeletePart(got, where); e != api.OK || !same(back, pruned(s)) {
				t.Fatalf("DeletePart(%v, %d) = %v, %d", got, where, back, e)
			}
		}
		var l []api.Measure
		for range r.Intn(4) {
			l = append(l, r.measure(Staves(s)))
		}
		where = r.Intn(len(s.Measures) + 1)
		got, e = InsertMeasures(s, where, l)
		if e != api.OK || !same(got.Measures[where:where+len(l)], l) {
			t.Fatalf("InsertMeasures(%v, %d, %v) = %v, %d", s, where, l, got, e)
		}
		if back, e := DeleteMeasures(got, where, len(l)); e != api.OK || !same(back, pruned(s)) {
			t.Fatalf("DeleteMeasures(%v, %d) = %v, %d", got, where, back, e)
		}
		if !same(s, before) {
			t.Fatalf("%v has been changed", before)
		}
	}
	if done["part"] < 1000 {
		t.Error(done)
	}
}

// P15.7 to P15.9
func TestRenumberModel(t *testing.T) {
	r := chance{rand.New(rand.NewSource(4))}
	ends := 0
	for range 3000 {
		s := r.score()
		old, events := IDs(s), eventIDs(s)
		got := Renumber(s)
		firstEvent := len(s.Parts) + Staves(s)
		for i, x := range IDs(got) {
			if x != (api.ID{Number: i + 1}) {
				t.Fatalf("Renumber(%v) = %v", s, got)
			}
		}
		renumbered := eventIDs(got)
		end := func(x api.ID) api.ID {
			if i := slices.Index(events, x); i >= 0 && x != (api.ID{}) {
				ends++
				return renumbered[i]
			}
			return api.ID{}
		}
		for i, x := range s.Spanners {
			if y := got.Spanners[i]; y.From != end(x.From) || y.To != end(x.To) || y.Kind != x.Kind {
				t.Fatalf("Renumber(%v) = %v", s, got)
			}
		}
		if last := got.Last; len(old) > 0 && !slices.Equal(last, []api.ID{{Number: len(old)}}) || len(old) == 0 && len(last) > 0 || len(renumbered) > 0 && renumbered[0].Number <= firstEvent {
			t.Fatalf("Renumber(%v) = %v", s, got)
		}
		if again := Renumber(got); !same(again, got) || !Same(s, got) || !Same(got, s) {
			t.Fatalf("Renumber(%v) = %v, and again %v", s, got, again)
		}
	}
	if ends < 1000 {
		t.Error(ends)
	}
}
