package parser

import (
	"strings"

	"hemiola/api"
	"hemiola/duration"
	"hemiola/lexer"
	"hemiola/metre"
	"hemiola/pitch"
)

// isPitch, isValue and isMetre report whether a token can be the first one of a composed token, and morePitch, moreValue and moreMetre whether it can be a further one.
func isPitch(t lexer.Token) bool {
	return t.Kind == lexer.Word && t.Text[0] >= 'A' && t.Text[0] <= 'G'
}

func morePitch(t lexer.Token) bool {
	return t.Kind == lexer.Number || t.Kind == lexer.Symbol && (t.Text == "#" || t.Text == "-")
}

func isValue(t lexer.Token) bool {
	return t.Kind == lexer.Number || t.Kind == lexer.Word && t.Text == "b"
}

func moreValue(t lexer.Token) bool { return t.Kind == lexer.Symbol && t.Text == "." }

func isMetre(t lexer.Token) bool { return t.Kind == lexer.Number }

func moreMetre(t lexer.Token) bool {
	return t.Kind == lexer.Number || t.Kind == lexer.Symbol && (t.Text == "+" || t.Text == "/")
}

// composed reads a composed token: a first token, and all joined ones behind it. What is wrong with the text of all of them is reported at the first one, as the error e.
func composed[T any](p *parser, first, more func(lexer.Token) bool, parse func(string) (T, api.Errno), e api.Errno) T {
	var none T
	begin := p.Peek()
	if !first(begin) {
		p.Fail(api.ErrSyntax)
		return none
	}
	var b strings.Builder
	b.WriteString(p.Next().Text)
	for t := p.Peek(); t.Joined && more(t); t = p.Peek() {
		b.WriteString(p.Next().Text)
	}
	x, err := parse(b.String())
	if err != api.OK {
		p.failAt(begin, e)
		return none
	}
	return x
}

// failAt fails at a token that has been taken, where no error has been found so far.
func (p *parser) failAt(t lexer.Token, e api.Errno) {
	p.Stream = lexer.Of([]lexer.Token{t})
	p.Fail(e)
}

func (p *parser) pitch() api.Pitch {
	parse := func(s string) (api.Pitch, api.Errno) {
		x, _, e := pitch.Parse(s)
		return x, e
	}
	return composed(p, isPitch, morePitch, parse, api.ErrPitch)
}

func (p *parser) value() api.Value {
	return composed(p, isValue, moreValue, duration.Parse, api.ErrValue)
}

func (p *parser) metre() api.Metre {
	return composed(p, isMetre, moreMetre, metre.Parse, api.ErrMetre)
}
