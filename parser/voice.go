package parser

import (
	"math/bits"

	"hemiola/api"
	"hemiola/lexer"
)

// maxRatio is the greatest number of a tuplet, and minGrace and maxGrace are the limits of what a whole note is divided by for a grace note.
const (
	maxRatio = 32
	minGrace = 2
	maxGrace = 64
)

// voice reads a voice. Tuplets that contain others are read in a loop, so that they may be nested deeply.
func (p *parser) voice() api.Voice {
	var x api.Voice
	var open []int // the indices of the tuplets that are not closed yet
	for {
		switch {
		case p.Accept("("):
			open = append(open, len(x.Tuplets))
			x.Tuplets = append(x.Tuplets, p.tuplet(len(x.Events)))
		case p.beginsEvent():
			x.Events = append(x.Events, p.event())
		case len(open) > 0:
			last := len(open) - 1
			p.close(&x.Tuplets[open[last]], len(x.Events))
			open = open[:last]
		default:
			return x
		}
	}
}

// tuplet reads the numbers of a tuplet that begins with an event, and close reads its end before an event.
func (p *parser) tuplet(first int) api.Tuplet {
	actual := p.Number(1, maxRatio)
	p.Expect(":")
	return api.Tuplet{First: first, Actual: actual, Normal: p.Number(1, maxRatio)}
}

func (p *parser) close(x *api.Tuplet, end int) {
	x.Count = end - x.First
	if x.Count == 0 {
		p.Fail(api.ErrSyntax)
	}
	p.Expect(")")
}

// beginsEvent reports whether an event is next, and beginsPitch and beginsGrace whether a pitch or a grace note is.
func (p *parser) beginsEvent() bool {
	return p.Is("@") || p.Is("grace") || p.Is("<") || p.Is("r") || p.Is("R") || p.Is("s") || p.beginsPitch()
}

func (p *parser) beginsPitch() bool { return isPitch(p.Peek()) }

func (p *parser) beginsGrace() bool { return p.Is("/") || p.beginsPitch() }

// event reads an event.
func (p *parser) event() api.Event {
	x := api.Event{ID: p.id()}
	if p.Accept("grace") {
		p.Expect("(")
		x.Graces = some(p.grace, p.beginsGrace)
		p.Expect(")")
	}
	p.body(&x)
	if p.Accept("[") {
		p.brackets(&x)
		p.Expect("]")
	}
	for p.Peek().Kind == lexer.String || p.Is("_") {
		x.Lyrics = append(x.Lyrics, p.syllable())
	}
	return x
}

// body reads the body of an event.
func (p *parser) body(x *api.Event) {
	switch {
	case p.Accept("R"):
		x.Kind = api.MeasureRest
		return
	case p.Accept("r"):
		x.Kind = api.Rest
	case p.Accept("s"):
		x.Kind = api.Skip
	default:
		x.Kind, x.Heads = api.Chord, p.heads()
	}
	p.Expect(":")
	x.Value = p.value()
}

// heads reads the heads of a chord.
func (p *parser) heads() []api.Head {
	if !p.Accept("<") {
		return []api.Head{p.head()}
	}
	l := some(p.head, p.beginsPitch)
	p.Expect(">")
	return l
}

func (p *parser) head() api.Head {
	x := api.Head{Pitch: p.pitch(), Tied: p.Accept("~")}
	switch {
	case p.Accept("!"):
		x.Show = api.ShowAlways
	case p.Accept("?"):
		x.Show = api.ShowParentheses
	}
	return x
}

// grace reads a grace note, and graceLog its length.
func (p *parser) grace() api.Grace {
	x := api.Grace{Slash: p.Accept("/"), Pitch: p.pitch()}
	p.Expect(":")
	x.Log = p.graceLog()
	return x
}

func (p *parser) graceLog() int {
	if t := p.Peek(); t.Kind == lexer.Number && bits.OnesCount(uint(t.Value)) != 1 {
		p.Fail(api.ErrRange)
	}
	return bits.TrailingZeros(uint(p.Number(minGrace, maxGrace)))
}

// brackets reads the words in brackets.
func (p *parser) brackets(x *api.Event) {
	before := 0
	for more := true; more; more = p.Peek().Kind == lexer.Word {
		before = p.mark(before)
		setMark(x, before)
	}
}

// mark reads a word in brackets that may stand behind the one with the number before, and returns its number.
func (p *parser) mark(before int) int {
	n := p.words.marks[p.Peek().Text]
	if n > 0 && (n <= before || n >= ornament && n/groupSize == before/groupSize) {
		p.Fail(api.ErrSyntax)
	}
	return p.choose(p.words.marks)
}

// setMark sets what the word in brackets with a number stands for.
func setMark(x *api.Event, n int) {
	value := n % groupSize
	switch n - value {
	case articulation:
		x.Articulations |= value
	case ornament:
		x.Ornament = value
	case dynamic:
		x.Dynamic = value
	case stem:
		x.Stem = value
	case beam:
		x.Beam = value
	}
}

// syllable reads a syllable.
func (p *parser) syllable() api.Syllable {
	if p.Accept("_") {
		return api.Syllable{Link: api.Extender}
	}
	x := api.Syllable{Text: p.String()}
	switch joined := p.Peek().Joined; {
	case joined && p.Accept("-"):
		x.Link = api.Hyphen
	case joined && p.Accept("_"):
		x.Link = api.Extender
	}
	return x
}
