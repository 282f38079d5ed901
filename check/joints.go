package check

import (
	"slices"

	"hemiola/api"
	"hemiola/event"
	"hemiola/places"
	"hemiola/score"
	"hemiola/spanner"
)

// next returns the place of the next event of a voice, and the event.
func (c *checker) next(p score.Place) (q score.Place, x api.Event, found bool) {
	q, found = score.Next(c.score, p)
	if found {
		x = c.score.Measures[q.Measure].Cells[q.Staff].Voices[q.Voice].Events[q.Event]
	}
	return q, x, found
}

func (c *checker) ties() {
	for p, x := range c.all() {
		if event.Ties(x) {
			_, next, found := c.next(p)
			c.report(x.ID, !found || !event.Joins(x, next))
		}
	}
}

func (c *checker) margins() {
	for p, x := range c.all() {
		if event.Ties(x) {
			next, _, found := c.next(p)
			c.report(x.ID, found && next.Measure != p.Measure && c.parted(p.Measure, next.Measure))
		}
	}
}

// parted reports whether a measure is not always played after the one before it.
func (c *checker) parted(before, after int) bool {
	a, b := c.score.Measures[before], c.score.Measures[after]
	return a.RepeatEnd != 0 || a.Jump != 0 || a.Labels&(api.Fine|api.ToCoda) != 0 ||
		b.Endings != a.Endings || b.RepeatStart || b.Labels&(api.Segno|api.Coda) != 0
}

// line is a verse of a voice, and sung a syllable with the event that it belongs to.
type line struct{ staff, voice, verse int }

type sung struct {
	syllable api.Syllable
	id       api.ID
}

func (c *checker) lyrics() {
	wrong := map[api.ID]bool{}
	last := map[line]sung{}
	for p, x := range c.all() {
		for verse, y := range x.Lyrics {
			if y == (api.Syllable{}) { // absent
				continue
			}
			at := line{p.Staff, p.Voice, verse}
			before := last[at]
			if before.syllable.Link == api.Hyphen && y.Text == "" {
				wrong[before.id] = true
			}
			if y.Link == api.Extender && y.Text == "" && before.syllable.Link != api.Extender {
				wrong[x.ID] = true
			}
			last[at] = sung{y, x.ID}
		}
	}
	for _, y := range last {
		if y.syllable.Link == api.Hyphen {
			wrong[y.id] = true
		}
	}
	for _, x := range c.all() {
		c.report(x.ID, wrong[x.ID])
	}
}

// span is the span of a spanner that violates no rule up to ends, with the index of the spanner.
type span struct {
	index int
	spanner.Span
}

func (c *checker) ends() {
	at := places.Of(c.score)
	for i, x := range c.score.Spanners {
		from, begins := at[x.From]
		to, ends := at[x.To]
		s := span{i, spanner.Span{Kind: x.Kind, From: from, To: to}}
		wrong := !begins || !ends || spanner.Proper(s.Span) != api.OK
		c.report(x.ID, wrong)
		if !wrong {
			c.spans = append(c.spans, s)
		}
	}
}

// nesting follows the spans from left to right, and compares each one with those only that have not ended before it begins: others exclude nothing.
func (c *checker) nesting() {
	excluded := make([]bool, len(c.score.Spanners))
	slices.SortFunc(c.spans, func(a, b span) int { return spanner.Compare(a.From, b.From) })
	var open []span
	for _, s := range c.spans {
		open = slices.DeleteFunc(open, func(o span) bool { return spanner.Compare(o.To, s.From) < 0 })
		for _, o := range open {
			if spanner.Conflict(o.Span, s.Span) {
				excluded[max(o.index, s.index)] = true
			}
		}
		open = append(open, s)
	}
	for i, x := range c.score.Spanners {
		c.report(x.ID, excluded[i])
	}
}
