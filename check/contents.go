package check

import (
	"iter"
	"slices"

	"hemiola/api"
	"hemiola/clef"
	"hemiola/event"
	"hemiola/interval"
	"hemiola/key"
	"hemiola/measure"
	"hemiola/pitch"
	"hemiola/score"
	"hemiola/voice"
)

// Limits that are not in api: of the tempo marks and of the clef changes of a staff in a measure, and of the bytes of plain texts.
const (
	maxTempi = 64
	maxClefs = 64
	minByte  = 32
	noByte   = 127
)

// inRange reports whether a number is from one number to another one.
func inRange(low, high, n int) bool { return n >= low && n <= high }

// plain reports whether a text is short and without control characters.
func plain(text string) bool {
	for _, b := range []byte(text) {
		if b < minByte || b == noByte {
			return false
		}
	}
	return len(text) <= api.MaxText
}

func (c *checker) limits() {
	s := c.score
	for _, p := range s.Parts {
		fits := plain(p.Name) && inRange(1, api.MaxStaves, len(p.Staves)) && interval.Check(p.Transpose) == api.OK
		c.report(p.ID, !fits)
	}
	for _, m := range s.Measures {
		fits := plain(m.Rehearsal) && len(m.Tempi) <= maxTempi && !slices.ContainsFunc(m.Cells, oversized)
		c.report(m.ID, !fits)
	}
	fits := plain(s.Title) && inRange(1, api.MaxParts, len(s.Parts)) && inRange(1, api.MaxMeasures, len(s.Measures)) &&
		len(s.Spanners) <= api.MaxSpanners && len(s.Last) <= api.MaxSite+1
	c.report(api.ID{}, !fits)
}

// oversized reports whether a cell exceeds a limit.
func oversized(c api.Cell) bool {
	return len(c.Clefs) > maxClefs || len(c.Voices) > api.MaxVoices || slices.ContainsFunc(c.Voices, func(v api.Voice) bool {
		return len(v.Events) > api.MaxEvents || len(v.Tuplets) > api.MaxTuplets
	})
}

func (c *checker) ids() {
	known := map[api.ID]bool{}
	for _, id := range score.IDs(c.score) {
		c.report(id, !isID(id) || known[id] || id.Number > score.Last(c.score, id.Site))
		known[id] = true
	}
	before := -1
	disordered := func(id api.ID) bool {
		wrong := !isID(id) || id.Site <= before
		before = id.Site
		return wrong
	}
	c.report(api.ID{}, slices.ContainsFunc(c.score.Last, disordered))
}

func isID(id api.ID) bool {
	return inRange(0, api.MaxSite, id.Site) && inRange(1, api.MaxNumber, id.Number)
}

func (c *checker) structure() {
	for _, m := range c.score.Measures {
		c.report(m.ID, len(m.Cells) != score.Staves(c.score) || slices.ContainsFunc(m.Cells, incomplete))
	}
}

// incomplete reports whether the voice 0, or the last voice, of a cell is not present. Within the limits there are no other voices, so that no voice without events is left that could have tuplets.
func incomplete(c api.Cell) bool {
	last := len(c.Voices) - 1
	return last < 0 || len(c.Voices[0].Events) == 0 || len(c.Voices[last].Events) == 0
}

func (c *checker) clefs() {
	for _, p := range c.score.Parts {
		for _, t := range p.Staves {
			c.report(t.ID, clef.Check(t.Clef) != api.OK)
		}
	}
	for _, m := range c.score.Measures {
		length, e := measure.Length(m)
		c.report(m.ID, e == api.OK && slices.ContainsFunc(m.Cells, func(c api.Cell) bool { return !clefsFit(c.Clefs, length) }))
	}
}

// clefsFit reports whether there are such clefs, and whether they follow one another in a measure with a length.
func clefsFit(l []api.ClefChange, length int) bool {
	before := -1
	for _, x := range l {
		if clef.Check(x.Clef) != api.OK || x.At <= before || x.At >= length {
			return false
		}
		before = x.At
	}
	return true
}

func (c *checker) metres() {
	for _, m := range c.score.Measures {
		_, e := measure.Length(m)
		foreign := func(p api.Part) bool {
			_, e := key.Transpose(m.Fifths, p.Transpose)
			return c.score.Written && e != api.OK
		}
		c.report(m.ID, e != api.OK || key.Check(m.Fifths) != api.OK || slices.ContainsFunc(c.score.Parts, foreign))
	}
}

func (c *checker) voices() { c.reportFaults(disturbs) }

func (c *checker) tuplets() { c.reportFaults(func(e api.Errno) bool { return !disturbs(e) }) }

// disturbs reports whether an error of a voice belongs to the rule voices, and not to the rule tuplets.
func disturbs(e api.Errno) bool { return e == api.ErrKind || e == api.ErrLength }

// reportFaults reports the measures with a voice that has an error of some kind.
func (c *checker) reportFaults(concerns func(e api.Errno) bool) {
	if c.faults == nil {
		for _, m := range c.score.Measures {
			c.faults = append(c.faults, faultsOf(m))
		}
	}
	for i, m := range c.score.Measures {
		c.report(m.ID, slices.ContainsFunc(c.faults[i], concerns))
	}
}

// faultsOf returns the errors of the voices of a measure whose events are all well-formed.
func faultsOf(m api.Measure) []api.Errno {
	length, e := measure.Length(m)
	if e != api.OK {
		return nil
	}
	var l []api.Errno
	for _, c := range m.Cells {
		for _, v := range c.Voices {
			if e := voice.Check(v, length); e != api.OK && !slices.ContainsFunc(v.Events, malformed) {
				l = append(l, e)
			}
		}
	}
	return l
}

func malformed(x api.Event) bool { return event.Check(x) != api.OK }

// all yields all events in the order of the score, with their places.
func (c *checker) all() iter.Seq2[score.Place, api.Event] {
	return func(yield func(score.Place, api.Event) bool) {
		for i, m := range c.score.Measures {
			for staff, cell := range m.Cells {
				for number, v := range cell.Voices {
					for k, x := range v.Events {
						p := score.Place{Kind: score.Event, Staff: staff, Measure: i, Voice: number, Event: k}
						if !yield(p, x) {
							return
						}
					}
				}
			}
		}
	}
}

func (c *checker) events() {
	for _, x := range c.all() {
		c.report(x.ID, malformed(x))
	}
}

func (c *checker) pitches() {
	shifts := c.shifts()
	for p, x := range c.all() {
		if p.Staff < len(shifts) && shifts[p.Staff] != 0 {
			c.report(x.ID, leaves(x, shifts[p.Staff]) && !malformed(x))
		}
	}
}

// shifts returns, for each staff, by how much the numbers of its pitches are changed between what is written and what sounds.
func (c *checker) shifts() []int {
	var l []int
	for _, p := range c.score.Parts {
		by := p.Transpose.Semitones
		if c.score.Written {
			by = -by
		}
		for range p.Staves {
			l = append(l, by)
		}
	}
	return l
}

// leaves reports whether a pitch of an event leaves the range of numbers if it is shifted.
func leaves(x api.Event, by int) bool {
	outside := func(p api.Pitch) bool {
		n, e := pitch.Number(p)
		return e == api.OK && !inRange(0, pitch.MaxNumber, n+by)
	}
	return slices.ContainsFunc(x.Heads, func(h api.Head) bool { return outside(h.Pitch) }) ||
		slices.ContainsFunc(x.Graces, func(g api.Grace) bool { return outside(g.Pitch) })
}
