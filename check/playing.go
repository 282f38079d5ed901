package check

import (
	"slices"

	"hemiola/api"
	"hemiola/measure"
)

// Limits of what says how measures are played.
const (
	minTimes   = 2
	maxTimes   = 8
	allEndings = 1<<maxTimes - 1
	maxMicros  = 60000000
	minSwing   = 50
	maxSwing   = 75
)

func (c *checker) repeats() {
	before := len(c.found)
	for _, m := range c.score.Measures {
		times := m.RepeatEnd == 0 || inRange(minTimes, maxTimes, m.RepeatEnd)
		c.report(m.ID, !times || !inRange(0, allEndings, m.Endings))
	}
	if len(c.found) > before {
		return
	}
	var r reader
	for _, m := range c.score.Measures {
		if !r.read(m) {
			c.report(m.ID, true)
			return
		}
	}
	last := c.score.Measures[len(c.score.Measures)-1]
	c.report(last.ID, !r.complete())
}

// What a reader has read last.
const (
	outside  = iota // nothing, or the last measure of a group without endings
	loose           // measures that may be the body of a group, or belong to none
	body            // the body of a group that began with a RepeatStart
	unclosed        // an ending without its RepeatEnd
	closed          // an ending with its RepeatEnd
	final           // the last ending
)

// reader reads measures as groups of repeated measures, as long as they can be continued to groups.
type reader struct {
	state  int
	ending int // the passes of the ending that was read last, as bits
	played int // the passes of all endings of the group
	times  int // how many passes the group has; 0 as long as no RepeatEnd says it
}

// complete reports whether the measures that were read are groups, and measures without repeats.
func (r *reader) complete() bool { return r.state == outside || r.state == loose || r.state == final }

// read reads a measure. It returns false if no groups begin with what has been read.
func (r *reader) read(m api.Measure) bool {
	switch {
	case m.Endings == 0:
		return r.readBody(m)
	case m.RepeatStart:
		return false
	case m.Endings == r.ending:
		return r.state == unclosed && r.close(m.RepeatEnd) || r.state == final && m.RepeatEnd == 0
	case r.state == loose || r.state == body:
		return m.Endings&1 != 0 && r.begin(m)
	}
	return r.state == closed && r.begin(m)
}

func (r *reader) readBody(m api.Measure) bool {
	started := r.state == body
	if r.state == unclosed || r.state == closed || started && m.RepeatStart {
		return false
	}
	*r = reader{state: loose}
	if m.RepeatStart || started {
		r.state = body
	}
	if m.RepeatEnd != 0 {
		r.state = outside
	}
	return true
}

// begin reads the first measure of an ending.
func (r *reader) begin(m api.Measure) bool {
	// As long as the number of passes is not known, the group may have as many as possible.
	times := r.times
	if times == 0 {
		times = maxTimes
	}
	last := 1 << (times - 1)
	repeated := r.played&m.Endings != 0
	r.ending = m.Endings
	r.played |= m.Endings
	if m.Endings == last { // which the first ending, with the pass 0, is not
		r.state = final
		return r.played == 2*last-1 && m.RepeatEnd == 0
	}
	return !repeated && m.Endings < last && r.close(m.RepeatEnd)
}

// close reads the RepeatEnd of a measure of an ending that is not the last one, if it has one.
func (r *reader) close(times int) bool {
	if times == 0 {
		r.state = unclosed
		return true
	}
	if r.times == 0 && r.ending < 1<<(times-1) {
		r.times = times
	}
	r.state = closed
	return r.times == times
}

func (c *checker) jumps() {
	jumps, labels := false, 0
	for i, m := range c.score.Measures {
		known := inRange(0, api.DalSegnoCoda, m.Jump) && inRange(0, api.AllLabel, m.Labels)
		repeated := (m.Jump != 0 || m.Labels != 0) && (m.RepeatEnd != 0 || m.Endings != 0)
		again := m.Jump != 0 && jumps || m.Labels&labels != 0
		c.report(m.ID, !known || repeated || again || !c.labelled(i))
		jumps, labels = jumps || m.Jump != 0, labels|m.Labels
	}
}

// labelled reports whether the labels that the jump of a measure needs, if it has one, are in place.
func (c *checker) labelled(index int) bool {
	first := func(label int) int {
		return slices.IndexFunc(c.score.Measures, func(m api.Measure) bool { return m.Labels&label != 0 })
	}
	passed := func(label int) bool { return inRange(0, index, first(label)) }
	jump := c.score.Measures[index].Jump
	if inRange(api.DalSegno, api.DalSegnoCoda, jump) && !passed(api.Segno) {
		return false
	}
	switch jump {
	case api.DaCapoFine, api.DalSegnoFine:
		return passed(api.Fine)
	case api.DaCapoCoda, api.DalSegnoCoda:
		return passed(api.ToCoda) && first(api.Coda) > first(api.ToCoda)
	}
	return true
}

func (c *checker) tempi() {
	for _, m := range c.score.Measures {
		swings := m.Swing == 0 || inRange(minSwing, maxSwing, m.Swing)
		breaks := inRange(api.BreakNone, api.BreakNever, m.Break)
		c.report(m.ID, !swings || !breaks || !tempiFit(m))
	}
}

// tempiFit reports whether there are such tempi, and whether they follow one another in their measure.
func tempiFit(m api.Measure) bool {
	length, _ := measure.Length(m)
	before := -1
	for _, t := range m.Tempi {
		if t.At <= before || t.At >= length || !inRange(1, maxMicros, t.Micros) {
			return false
		}
		before = t.At
	}
	return true
}
