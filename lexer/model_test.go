package lexer

import (
	"math/rand"
	"regexp"
	"slices"
	"strconv"
	"strings"
	"testing"

	"hemiola/api"
)

// The model reads a text of runes that stand for the bytes, with regular expressions.
const pieceOf = `(?:[ !#-\[\]-~\x{80}-\x{ff}]|\\[nt\\"]|\\x[0-9a-f][0-9a-f])`

var (
	blank  = regexp.MustCompile(`^(?:[ \t\r\n]|%[^\n]*)+`)
	word   = regexp.MustCompile(`^[A-Za-z][A-Za-z0-9_]*`)
	number = regexp.MustCompile(`^[0-9]+`)
	symbol = regexp.MustCompile(`^[(){}\[\]<>=:;,./|@#~!?+\-*&^_'$\\]`)
	quoted = regexp.MustCompile(`^"` + pieceOf + `*"`)
	opened = regexp.MustCompile(`^"` + pieceOf + `*`)
	begun  = regexp.MustCompile(`^(?:\\(?:x[0-9a-f]?)?)?`)
	pieces = regexp.MustCompile(pieceOf)
)

// latin returns a text of a rune for each byte, and bytes leads back.
func latin(s string) string {
	var b strings.Builder
	for i := range len(s) {
		b.WriteRune(rune(s[i]))
	}
	return b.String()
}

func bytes(s string) string {
	var b []byte
	for _, r := range s {
		b = append(b, byte(r))
	}
	return string(b)
}

// The model of a scan that has not exceeded a limit of the whole text.
func scanned(s string) (l []Token, line, column int, e api.Errno) {
	place := func(n int) (int, int) {
		before := s[:n]
		return 1 + strings.Count(before, "\n"), n - strings.LastIndex(before, "\n")
	}
	fail := func(n int, e api.Errno) ([]Token, int, int, api.Errno) {
		line, column := place(n)
		return nil, line, column, e
	}
	at, apart := 0, true
	for at < len(s) {
		rest := latin(s[at:])
		if b := blank.FindString(rest); b != "" {
			at, apart = at+len(bytes(b)), true
			continue
		}
		t := Token{Joined: !apart}
		t.Line, t.Column = place(at)
		switch {
		case word.MatchString(rest):
			t.Kind, t.Text = Word, bytes(word.FindString(rest))
			if len(t.Text) > MaxWord {
				return fail(at, api.ErrLong)
			}
		case number.MatchString(rest):
			t.Kind, t.Text = Number, bytes(number.FindString(rest))
			if len(t.Text) > MaxDigits {
				return fail(at, api.ErrLong)
			}
			t.Value, _ = strconv.Atoi(t.Text)
		case symbol.MatchString(rest):
			t.Kind, t.Text = Symbol, bytes(symbol.FindString(rest))
		case rest[0] != '"':
			return fail(at, api.ErrByte)
		case !quoted.MatchString(rest):
			legal := opened.FindString(rest)
			legal += begun.FindString(rest[len(legal):])
			if legal == rest {
				return fail(at, api.ErrShort)
			}
			return fail(at+len(bytes(legal)), api.ErrByte)
		default:
			text := quoted.FindString(rest)
			t.Kind, t.Text = String, bytes(text)
			t.Bytes = denoted(text[1 : len(text)-1])
			if len(t.Bytes) > MaxString {
				return fail(at, api.ErrLong)
			}
		}
		l = append(l, t)
		at, apart = at+len(t.Text), false
	}
	end := Token{}
	end.Line, end.Column = place(at)
	return append(l, end), 0, 0, api.OK
}

// denoted returns what the pieces of a string denote.
func denoted(text string) string {
	return bytes(pieces.ReplaceAllStringFunc(text, func(p string) string {
		switch {
		case p == `\n`:
			return "\n"
		case p == `\t`:
			return "\t"
		case strings.HasPrefix(p, `\x`):
			n, _ := strconv.ParseUint(p[2:], 16, 8)
			return string(rune(n))
		}
		return strings.TrimPrefix(p, `\`)
	}))
}

// compare reports a text that is not scanned as in the model.
func compare(t *testing.T, s string) {
	t.Helper()
	l, line, column, e := Scan(s)
	m, mline, mcolumn, me := scanned(s)
	if !slices.Equal(l, m) || line != mline || column != mcolumn || e != me {
		t.Fatalf("Scan(%q) = %v, %d, %d, %d; want %v, %d, %d, %d", s, l, line, column, e, m, mline, mcolumn, me)
	}
}

// P18.1: all short texts.
func TestScanAll(t *testing.T) {
	const alphabet = "ax1f_\"\\ %\n(n`\xe9"
	short := []string{""}
	for range 5 {
		var longer []string
		for _, s := range short {
			compare(t, s)
			for i := range len(alphabet) {
				longer = append(longer, s+alphabet[i:i+1])
			}
		}
		short = longer
		if len(short) > 300000 {
			break
		}
	}
	for c := range 256 {
		for _, around := range []string{"", "a", "1", `"`, `"\`, `"\x`, `"\x0`, "%", "."} {
			compare(t, around+string([]byte{byte(c)}))
			compare(t, around+string([]byte{byte(c)})+`1" b`)
		}
	}
}

// some returns a random text of pieces.
func some(r *rand.Rand) string {
	parts := []string{"a", "Zz_9", "0", "42", " ", "\n", "\t", "\r", "% c\n", "%", `"x"`, `"\n\x7f"`, `""`, "(", ")", ".", "-", "_", "@", `"`, `\`, "\x80", strings.Repeat("w", 63), strings.Repeat("7", 14), `"` + strings.Repeat("s", 4094)}
	weights := len(parts)
	if r.Intn(3) > 0 {
		weights -= 6
	}
	var b strings.Builder
	for range r.Intn(12) {
		b.WriteString(parts[r.Intn(weights)])
	}
	return b.String()
}

// P18.1, P18.7
func TestScanSome(t *testing.T) {
	r := rand.New(rand.NewSource(18))
	read := 0
	for range 20000 {
		s := some(r)
		compare(t, s)
		l, _, _, e := Scan(s)
		if e != api.OK {
			continue
		}
		read++
		again, _, _, e := Scan(Print(l))
		if e != api.OK || !Same(l, again) {
			t.Fatalf("%q is printed as %q: %v", s, Print(l), again)
		}
		respaced(t, r, l)
		placed(t, s, l)
	}
	if read < 5000 {
		t.Error("few texts have no error:", read)
	}
}

// respaced puts other blanks between the tokens of a text.
func respaced(t *testing.T, r *rand.Rand, l []Token) {
	blanks := []string{" ", "\n", "\t\r", "%\n", " % \"x\n ", "\n\n"}
	s := ""
	for i, x := range l {
		if !x.Joined && (i > 0 || r.Intn(2) == 0) {
			s += blanks[r.Intn(len(blanks))]
		}
		s += x.Text
	}
	if again, _, _, e := Scan(s); e != api.OK || !Same(l, again) {
		t.Fatalf("%v, %d; want %v", again, e, l)
	}
}

// placed checks that the places increase, and that the tokens stand there.
func placed(t *testing.T, s string, l []Token) {
	lines := strings.Split(s, "\n")
	for i, x := range l {
		if i > 0 && (l[i-1].Line > x.Line || l[i-1].Line == x.Line && l[i-1].Column >= x.Column) {
			t.Fatalf("%q: %v", s, l)
		}
		if rest := lines[x.Line-1][x.Column-1:]; !strings.HasPrefix(rest, x.Text) || x.Kind == End && rest != "" {
			t.Fatalf("%q: %v is not there", s, x)
		}
	}
}

// P1
func FuzzScan(f *testing.F) {
	for _, s := range []string{"c4.'x  8va % end", `"a\x41" "\q"`, "\n\x00", `"`} {
		f.Add(s)
	}
	f.Fuzz(func(t *testing.T, s string) {
		if len(s) < 10000 {
			compare(t, s)
		}
		q, e := Quote(s)
		if l, _, _, f := Scan(q); e == api.OK && (f != api.OK || len(l) != 2 || l[0].Bytes != s) {
			t.Fatalf("Quote(%q) = %s", s, q)
		}
	})
}
