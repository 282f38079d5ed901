package lexer

import (
	"strconv"
	"strings"

	"hemiola/api"
)

// scanner divides a text into tokens, from its beginning on.
type scanner struct {
	text   string
	at     int // the offset of the next byte
	line   int // in which this byte is
	start  int // the offset of the first byte of this line
	tokens []Token
	end    int // the offset behind the last one of them
}

// column returns the column of a byte in the present line, by its offset.
func (x *scanner) column(at int) int { return at - x.start + 1 }

// rest is the text from the next byte on.
func (x *scanner) rest() string { return x.text[x.at:] }

// skip passes over blanks and comments.
func (x *scanner) skip() {
blanks:
	for x.at < len(x.text) {
		switch x.text[x.at] {
		case '\n':
			x.line, x.start = x.line+1, x.at+1
		case ' ', '\t', '\r':
		case '%':
			// The line feed is no part of the comment, so that it is counted.
			x.at += run(x.rest(), func(c byte) bool { return c != '\n' })
			continue blanks
		default:
			break blanks
		}
		x.at++
	}
}

// reader reads a token of one kind from the next byte on, and returns how many bytes it has; there are none if no token of this kind begins there. With an error, it returns how many bytes precede what is wrong.
type reader func(x *scanner) (t Token, n int, e api.Errno)

// token adds the token that begins at the next byte, or returns the offset of the first error.
func (x *scanner) token() (wrong int, e api.Errno) {
	if len(x.tokens) == MaxTokens {
		return x.at, api.ErrLimit
	}
	for _, read := range []reader{(*scanner).word, (*scanner).number, (*scanner).quoted, (*scanner).symbol} {
		t, n, e := read(x)
		if e != api.OK {
			return x.at + n, e
		}
		if n > 0 {
			x.add(t, n)
			return 0, api.OK
		}
	}
	return x.at, api.ErrByte
}

// add appends a token with so many bytes.
func (x *scanner) add(t Token, n int) {
	t.Text = x.rest()[:n]
	t.Line, t.Column = x.line, x.column(x.at)
	t.Joined = len(x.tokens) > 0 && x.at == x.end
	x.tokens = append(x.tokens, t)
	x.at += n
	x.end = x.at
}

func (x *scanner) word() (t Token, n int, e api.Errno) {
	if !isLetter(x.text[x.at]) {
		return Token{}, 0, api.OK
	}
	n = run(x.rest(), isWordByte)
	if n > MaxWord {
		return Token{}, 0, api.ErrLong
	}
	return Token{Kind: Word}, n, api.OK
}

func (x *scanner) number() (t Token, n int, e api.Errno) {
	if !isDigit(x.text[x.at]) {
		return Token{}, 0, api.OK
	}
	n = run(x.rest(), isDigit)
	if n > MaxDigits {
		return Token{}, 0, api.ErrLong
	}
	value, _ := strconv.Atoi(x.rest()[:n])
	return Token{Kind: Number, Value: value}, n, api.OK
}

func (x *scanner) symbol() (t Token, n int, e api.Errno) {
	if strings.IndexByte(symbols, x.text[x.at]) < 0 {
		return Token{}, 0, api.OK
	}
	return Token{Kind: Symbol}, 1, api.OK
}

func (x *scanner) quoted() (t Token, n int, e api.Errno) {
	rest := x.rest()
	if rest[0] != '"' {
		return Token{}, 0, api.OK
	}
	var b []byte
	for n = 1; n < len(rest) && rest[n] != '"'; {
		c, size, e := piece(rest[n:])
		switch e {
		case api.ErrByte:
			return Token{}, n + size, e
		case api.ErrShort:
			return Token{}, 0, e
		}
		b = append(b, c)
		n += size
	}
	switch {
	case n == len(rest):
		return Token{}, 0, api.ErrShort
	case len(b) > MaxString:
		return Token{}, 0, api.ErrLong
	}
	return Token{Kind: String, Bytes: string(b)}, n + 1, api.OK
}

// piece reads the piece of a string at the beginning of a text: the byte that it denotes, and how many bytes it has. With ErrByte, it returns how many bytes precede the wrong one; it returns ErrShort if the text ends within the piece.
func piece(s string) (c byte, size int, e api.Errno) {
	switch {
	case isControl(s[0]):
		return 0, 0, api.ErrByte
	case s[0] != '\\':
		return s[0], 1, api.OK
	case len(s) == 1:
		return 0, 0, api.ErrShort
	}
	switch s[1] {
	case 'n':
		return '\n', 2, api.OK
	case 't':
		return '\t', 2, api.OK
	case '\\', '"':
		return s[1], 2, api.OK
	case 'x':
		return hexPiece(s)
	}
	return 0, 1, api.ErrByte
}

// hexPiece is piece for \x and two digits.
func hexPiece(s string) (c byte, size int, e api.Errno) {
	for size = 2; size < 4; size++ {
		if size == len(s) {
			return 0, 0, api.ErrShort
		}
		digit := strings.IndexByte(hex, s[size])
		if digit < 0 {
			return 0, size, api.ErrByte
		}
		c = c<<4 | byte(digit)
	}
	return c, size, api.OK
}
