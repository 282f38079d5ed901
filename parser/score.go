package parser

import (
	"hemiola/api"
	"hemiola/lexer"
)

// The greatest numbers of steps and semitones of a transposition, of sharps and flats, of measures that are repeated, of bits for endings, of percents, and of microseconds of a quarter note.
const (
	maxInterval = 140
	maxFifths   = 7
	minTimes    = 2
	maxTimes    = 8
	maxEndings  = 255
	maxSwing    = 100
	maxMicros   = 60000000
)

// score reads a score, which reaches to the end of the text.
func (p *parser) score() api.Score {
	p.Expect("score")
	x := api.Score{Title: p.String(), Written: p.Accept("written")}
	last := p.Accept("last")
	if last {
		x.Last = some(p.writtenID, p.is("@"))
	}
	for p.Accept("part") {
		x.Parts = append(x.Parts, p.part())
	}
	before := api.Measure{Metre: api.Metre{Count: 4, Unit: 4}}
	for p.Accept("measure") {
		before = p.measure(before)
		x.Measures = append(x.Measures, before)
	}
	for p.Peek().Kind != lexer.End {
		x.Spanners = append(x.Spanners, p.spanner())
	}
	if !last {
		x.Last = p.given()
	}
	return x
}

// part reads a part behind its first word, and staff a staff.
func (p *parser) part() api.Part {
	x := api.Part{ID: p.id(), Name: p.String()}
	if p.Accept("transpose") {
		x.Transpose = api.Interval{Steps: p.integer(maxInterval), Semitones: p.integer(maxInterval)}
	}
	for p.Accept("staff") {
		x.Staves = append(x.Staves, p.staff())
	}
	return x
}

func (p *parser) staff() api.Staff { return api.Staff{ID: p.id(), Clef: p.choose(p.words.clefs)} }

// measure reads a measure behind its first word. It has the metre and the key of the measure before, unless its own are written.
func (p *parser) measure(before api.Measure) api.Measure {
	x := api.Measure{ID: p.id(), Metre: before.Metre, Fifths: before.Fifths}
	p.options(&x)
	p.Expect("{")
	x.Cells = some(p.cell, p.accept("/"))
	p.Expect("}")
	return x
}

// options reads the options of a measure.
func (p *parser) options(x *api.Measure) {
	label := func(bit int) func() { return func() { x.Labels |= bit } }
	for _, o := range []struct {
		word string
		read func()
	}{
		{"metre", func() { x.Metre = p.metre() }},
		{"length", func() { x.Length = p.Number(1, api.MaxTime) }},
		{"key", func() { x.Fifths = p.integer(maxFifths) }},
		{"repeat", func() { x.RepeatStart = true }},
		{"times", func() { x.RepeatEnd = p.Number(minTimes, maxTimes) }},
		{"endings", func() { x.Endings = p.Number(1, maxEndings) }},
		{"jump", func() { x.Jump = p.choose(p.words.jumps) }},
		{"segno", label(api.Segno)},
		{"coda", label(api.Coda)},
		{"fine", label(api.Fine)},
		{"tocoda", label(api.ToCoda)},
		{"swing", func() { x.Swing = p.Number(1, maxSwing) }},
		{"break", func() { x.Break = p.choose(p.words.breaks) }},
		{"mark", func() { x.Rehearsal = p.String() }},
	} {
		if p.Accept(o.word) {
			o.read()
		}
	}
	for p.Accept("tempo") {
		x.Tempi = append(x.Tempi, p.tempo())
	}
}

// tempo reads a tempo mark behind its first word, and change a clef change.
func (p *parser) tempo() api.TempoMark {
	return api.TempoMark{At: p.Number(0, api.MaxTime), Micros: p.Number(1, maxMicros), Ramp: p.Accept("ramp")}
}

func (p *parser) change() api.ClefChange {
	return api.ClefChange{At: p.Number(0, api.MaxTime), Clef: p.choose(p.words.clefs)}
}

// cell reads a cell.
func (p *parser) cell() api.Cell {
	var x api.Cell
	for p.Accept("clef") {
		x.Clefs = append(x.Clefs, p.change())
	}
	// Without any events, a cell has voices only if a semicolon says so.
	if l := some(p.voice, p.accept(";")); len(l) > 1 || len(l[0].Events) > 0 {
		x.Voices = l
	}
	return x
}

// spanner reads a spanner.
func (p *parser) spanner() api.Spanner {
	kind, known := p.words.spanners[p.Peek().Text]
	if !known {
		p.Fail(api.ErrSyntax)
	}
	p.Next()
	x := api.Spanner{Kind: kind, ID: p.id()}
	p.Expect("(")
	x.From, x.To = p.writtenID(), p.writtenID()
	p.Expect(")")
	return x
}
