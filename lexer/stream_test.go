package lexer

import (
	"math"
	"math/rand"
	"slices"
	"strings"
	"testing"

	"hemiola/api"
)

// failed reports an error that a Stream has not failed with.
func failed(t *testing.T, s *Stream, line, column int, e api.Errno) {
	t.Helper()
	if l, c, f := s.Failed(); l != line || c != column || f != e {
		t.Errorf("Failed() = %d, %d, %d; want %d, %d, %d", l, c, f, line, column, e)
	}
}

// silent reports a result of a Stream that is not what one that has failed returns, or one that has nothing.
func silent(t *testing.T, s *Stream) {
	t.Helper()
	line, column, e := s.Failed()
	if s.Peek() != (Token{}) || s.Next() != (Token{}) || s.Is("a") || s.Is("") || s.Accept("a") || s.Accept("") || s.Word() != "" || s.String() != "" || s.Number(math.MinInt, math.MaxInt) != 0 {
		t.Error("it returns something")
	}
	s.Expect("a")
	s.Expect("")
	s.Fail(api.ErrKind)
	s.Fail(api.OK)
	failed(t, s, line, column, e)
}

// P18.4, P18.5
func TestStream(t *testing.T) {
	s := Open(`a 12 "b" ( ) c "d"(`)
	failed(t, s, 0, 0, api.OK)
	if x := s.Peek(); x != (Token{Kind: Word, Text: "a", Line: 1, Column: 1}) || s.Peek() != x {
		t.Error(x)
	}
	if !s.Is("a") || s.Is("b") || s.Is("") || s.Accept("b") || !s.Is("a") || s.Word() != "a" {
		t.Error("a")
	}
	if s.Is("12") || s.Accept("12") || s.Number(12, 12) != 12 {
		t.Error("12")
	}
	if s.Is("b") || s.Is(`"b"`) || s.Accept(`"b"`) || s.String() != "b" {
		t.Error("b")
	}
	if !s.Is("(") || !s.Accept("(") || s.Accept("(") {
		t.Error("(")
	}
	s.Expect(")")
	s.Expect("c")
	if x := s.Next(); x != (Token{Kind: String, Text: `"d"`, Bytes: "d", Line: 1, Column: 16}) {
		t.Error(x)
	}
	if x := s.Next(); x != (Token{Kind: Symbol, Text: "(", Line: 1, Column: 19, Joined: true}) {
		t.Error(x)
	}
	for range 3 {
		if x := s.Next(); x != (Token{Line: 1, Column: 20}) || s.Peek() != x || s.Is("") || s.Accept("") || s.Is("(") {
			t.Error(x)
		}
	}
	failed(t, s, 0, 0, api.OK)
	s.Expect("")
	failed(t, s, 1, 20, api.ErrSyntax)
	silent(t, s)
}

// P18.4
func TestOpen(t *testing.T) {
	for _, text := range []string{"a\n `", `"`, "\n  \"\\q\"", strings.Repeat(" ", MaxSource+1), strings.Repeat("x", 70)} {
		_, line, column, e := Scan(text)
		s := Open(text)
		failed(t, s, line, column, e)
		silent(t, s)
	}
	s := Open("")
	if s.Peek() != (Token{Line: 1, Column: 1}) {
		t.Error(s.Peek())
	}
	failed(t, s, 0, 0, api.OK)
}

// P18.4
func TestOf(t *testing.T) {
	end := Token{Text: "end", Value: 1, Bytes: "b", Line: 7, Column: 8, Joined: true}
	l := append(tokens("w:a", "n:5"), end, Token{Kind: Word, Text: "b"}, Token{Line: 9})
	s := Of(l)
	l[0].Text, l[2].Line = "changed", 100
	if s.Word() != "a" || s.Number(0, 9) != 5 || s.Next() != end || s.Next() != end || s.Peek() != end {
		t.Error("with End")
	}
	s.Fail(api.ErrLost)
	failed(t, s, 7, 8, api.ErrLost)
	s = Of(l[:1])
	if s.Next().Text != "changed" || s.Next() != (Token{}) || s.Peek() != (Token{}) || s.Is("") {
		t.Error("without End")
	}
	failed(t, s, 0, 0, api.OK)
	s.Fail(api.ErrLost)
	failed(t, s, 0, 0, api.ErrLost)
	silent(t, s)
	if s := Of([]Token{end, {Kind: Word, Text: "a"}}); s.Peek() != end || s.Next() != end || s.Is("a") {
		t.Error("with End only")
	}
	odd := Token{Kind: -3, Text: "x", Value: 5, Bytes: "y", Line: -1, Column: math.MinInt}
	s = Of([]Token{odd, odd})
	if s.Is("x") || s.Accept("x") || s.Next() != odd {
		t.Error("a token of no kind")
	}
	s.Expect("x")
	failed(t, s, -1, math.MinInt, api.ErrSyntax)
}

// P18.5, P18.6
func TestTake(t *testing.T) {
	const text = `w 7 "s" ( `
	for skip := range 5 {
		for i, c := range []struct {
			take func(s *Stream)
			at   int // the index of the only token that is taken
			e    api.Errno
		}{
			{func(s *Stream) { check(t, s.Word(), "w", skip == 0) }, 0, api.ErrSyntax},
			{func(s *Stream) { check(t, s.Number(0, 9), 7, skip == 1) }, 1, api.ErrSyntax},
			{func(s *Stream) { check(t, s.Number(7, 7), 7, skip == 1) }, 1, api.ErrSyntax},
			{func(s *Stream) { check(t, s.String(), "s", skip == 2) }, 2, api.ErrSyntax},
			{func(s *Stream) { s.Expect("(") }, 3, api.ErrSyntax},
			{func(s *Stream) { s.Expect("w") }, 0, api.ErrSyntax},
			{func(s *Stream) { s.Expect("s") }, -1, api.ErrSyntax},
			{func(s *Stream) { s.Expect("7") }, -1, api.ErrSyntax},
			{func(s *Stream) { s.Fail(api.ErrLost) }, -1, api.ErrLost},
			{func(s *Stream) { s.Fail(-5) }, -1, -5},
		} {
			s := Open(text)
			for range skip {
				s.Next()
			}
			x := s.Peek()
			c.take(s)
			if skip != c.at {
				failed(t, s, 1, x.Column, c.e)
				silent(t, s)
			} else if failed(t, s, 0, 0, api.OK); s.Peek() == x {
				t.Error(i, "is not taken")
			}
		}
	}
}

// check reports a value that is not the one that is wanted, or, if there should be none, not zero.
func check[T comparable](t *testing.T, got, want T, there bool) {
	t.Helper()
	var none T
	if there && got != want || !there && got != none {
		t.Error(got)
	}
}

// P18.5
func TestNumber(t *testing.T) {
	for _, c := range []struct{ low, high int }{{8, 9}, {0, 6}, {math.MinInt, 6}, {8, math.MaxInt}, {9, 5}, {7, 6}, {8, 7}} {
		s := Open("\n  7 8")
		if n := s.Number(c.low, c.high); n != 0 {
			t.Error(c, n)
		}
		failed(t, s, 2, 3, api.ErrRange)
		silent(t, s)
	}
	s := Open("\n  x 7")
	if n := s.Number(9, 5); n != 0 {
		t.Error(n)
	}
	failed(t, s, 2, 3, api.ErrSyntax)
}

// P18.6
func TestFail(t *testing.T) {
	s := Open("a\nb")
	s.Fail(api.OK)
	failed(t, s, 0, 0, api.OK)
	if s.Word() != "a" {
		t.Error("OK is no error")
	}
	s.Fail(api.ErrKind)
	failed(t, s, 2, 1, api.ErrKind)
	silent(t, s)
	failed(t, s, 2, 1, api.ErrKind)
}

// P18.6, P1
func TestNil(t *testing.T) {
	var s *Stream
	failed(t, s, 0, 0, api.ErrArgument)
	silent(t, s)
	failed(t, s, 0, 0, api.ErrArgument)
	empty := &Stream{}
	failed(t, empty, 0, 0, api.OK)
	if empty.Peek() != (Token{}) || empty.Next() != (Token{}) || empty.Accept("") {
		t.Error("an empty stream has something")
	}
	empty.Word()
	failed(t, empty, 0, 0, api.ErrSyntax)
	silent(t, empty)
}

// The model of a Stream: the tokens that are left, the last one of which is never taken, and the first error with its token.
type rest struct {
	left []Token
	at   Token
	e    api.Errno
}

func (m *rest) fail(e api.Errno) {
	if m.e == api.OK {
		m.at, m.e = m.left[0], e
		m.left = []Token{{}}
	}
}

func (m *rest) take(ok bool, e api.Errno) Token {
	x := m.left[0]
	if !ok {
		m.fail(e)
		return Token{}
	}
	if len(m.left) > 1 {
		m.left = m.left[1:]
	}
	return x
}

// P18.4, P18.5, P18.6: random calls.
func TestCalls(t *testing.T) {
	r := rand.New(rand.NewSource(186))
	texts := []string{"a", "b", "(", ")", "", "5", `"x"`}
	for range 20000 {
		var parts []string
		for range r.Intn(8) {
			parts = append(parts, []string{"a", "b", "(", ")", "5", "17", `"x"`, `"yz"`}[r.Intn(8)])
		}
		source := strings.Join(parts, []string{" ", "\n", "\n "}[r.Intn(3)])
		l, _, _, _ := Scan(source)
		m, s := rest{left: slices.Clone(l)}, Open(source)
		if r.Intn(2) == 0 {
			s = Of(append(l, tokens("w:a")...))
		}
		for range 12 {
			x, text := m.left[0], texts[r.Intn(len(texts))]
			is := (x.Kind == Word || x.Kind == Symbol) && x.Text == text
			ok := true
			switch r.Intn(16) {
			case 0, 1, 2:
				ok = s.Next() == m.take(true, api.OK)
			case 3, 4, 5:
				ok = s.Accept(text) == is
				if is {
					m.take(true, api.OK)
				}
			case 6:
				s.Expect(text)
				m.take(is, api.ErrSyntax)
			case 7, 8:
				ok = s.Word() == m.take(x.Kind == Word, api.ErrSyntax).Text
			case 9, 10:
				ok = s.String() == m.take(x.Kind == String, api.ErrSyntax).Bytes
			case 11, 12:
				low, high := r.Intn(20), r.Intn(20)
				n := 0
				if x.Kind == Number && (x.Value < low || x.Value > high) {
					m.fail(api.ErrRange)
				} else {
					n = m.take(x.Kind == Number, api.ErrSyntax).Value
				}
				ok = s.Number(low, high) == n
			case 13:
				ok = s.Is(text) == is
			case 14:
				s.Fail(api.OK)
			case 15:
				if r.Intn(4) == 0 {
					s.Fail(api.ErrLost)
					m.fail(api.ErrLost)
				}
			}
			if !ok || s.Peek() != m.left[0] {
				t.Fatalf("%q: %v; want %v", source, s.Peek(), m)
			}
			failed(t, s, m.at.Line, m.at.Column, m.e)
		}
	}
}

// P18.7
func TestCopies(t *testing.T) {
	a, _, _, _ := Scan("a b")
	b, _, _, _ := Scan("a b")
	a[0].Text = "changed"
	if b[0].Text != "a" {
		t.Error("the tokens are shared")
	}
	l := slices.Clone(b)
	s := Of(b)
	s.Next()
	s.Fail(api.ErrLost)
	if Print(b) != "a b" || !slices.Equal(b, l) {
		t.Error(b)
	}
}
