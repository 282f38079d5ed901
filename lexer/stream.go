package lexer

import (
	"slices"

	"hemiola/api"
)

// Stream takes tokens one after another; the first error is kept.
type Stream struct {
	tokens       []Token
	next         int // the index of the next token; as an End is never taken, none behind it becomes the next one
	line, column int // where the first error is
	e            api.Errno
}

// Open returns a Stream of the tokens of a text, and Of one of tokens.
func Open(s string) *Stream {
	l, line, column, e := Scan(s)
	return &Stream{tokens: l, line: line, column: column, e: e}
}

func Of(l []Token) *Stream { return &Stream{tokens: slices.Clone(l)} }

// failed reports whether nothing more can be taken.
func (t *Stream) failed() bool { return t == nil || t.e != api.OK }

// Peek returns the next token, and Is reports whether it is a symbol or a word with a text.
func (t *Stream) Peek() Token {
	if t.failed() || t.next == len(t.tokens) {
		return Token{}
	}
	return t.tokens[t.next]
}

func (t *Stream) Is(text string) bool {
	x := t.Peek()
	return (x.Kind == Word || x.Kind == Symbol) && x.Text == text
}

// Next takes the next token; Accept takes it if Is holds; Expect takes it, or fails with ErrSyntax.
func (t *Stream) Next() Token {
	x := t.Peek()
	if x.Kind != End {
		t.next++
	}
	return x
}

func (t *Stream) Accept(text string) bool {
	is := t.Is(text)
	if is {
		t.Next()
	}
	return is
}

func (t *Stream) Expect(text string) {
	if !t.Accept(text) {
		t.Fail(api.ErrSyntax)
	}
}

// Word, Number and String take a token of their kind, or fail with ErrSyntax; a number outside of the limits is ErrRange.
func (t *Stream) Word() string { return t.take(Word).Text }

func (t *Stream) Number(low, high int) int {
	if x := t.Peek(); x.Kind == Number && (x.Value < low || x.Value > high) {
		t.Fail(api.ErrRange)
	}
	return t.take(Number).Value
}

func (t *Stream) String() string { return t.take(String).Bytes }

// take takes a token of a kind, or fails and returns the zero token.
func (t *Stream) take(kind int) Token {
	if t.Peek().Kind != kind {
		t.Fail(api.ErrSyntax)
		return Token{}
	}
	return t.Next()
}

// Fail keeps an error at the next token, and Failed returns the first error and where it is.
func (t *Stream) Fail(e api.Errno) {
	if t.failed() || e == api.OK {
		return
	}
	x := t.Peek()
	t.line, t.column, t.e = x.Line, x.Column, e
}

func (t *Stream) Failed() (line, column int, e api.Errno) {
	if t == nil {
		return 0, 0, api.ErrArgument
	}
	return t.line, t.column, t.e
}
