package lexer

import (
	"slices"
	"strconv"
	"strings"
	"testing"

	"hemiola/api"
)

// tokens returns tokens from texts like "w:c4", "n:8", "s:(" and "q:abc" (a string of these bytes), with a + before those that are joined. They have no places.
func tokens(words ...string) []Token {
	var l []Token
	for _, word := range words {
		var t Token
		word, t.Joined = strings.CutPrefix(word, "+")
		kind, text, _ := strings.Cut(word, ":")
		t.Text = text
		switch kind {
		case "w":
			t.Kind = Word
		case "n":
			t.Kind = Number
			t.Value, _ = strconv.Atoi(text)
		case "s":
			t.Kind = Symbol
		case "q":
			t.Kind, t.Text, t.Bytes = String, `"`+text+`"`, text
		}
		l = append(l, t)
	}
	return l
}

// P18.1: the numbers of the chapter.
func TestConstants(t *testing.T) {
	got := [...]int{MaxSource, MaxTokens, MaxWord, MaxString, MaxDigits, End, Word, Number, String, Symbol}
	if want := [...]int{1048576, 262144, 64, 4096, 15, 0, 1, 2, 3, 4}; got != want {
		t.Error(got)
	}
}

// P18.1
func TestScan(t *testing.T) {
	for s, want := range map[string][]string{
		"":                           nil,
		" \t\r\n \n":                 nil,
		"% comment":                  nil,
		"%":                          nil,
		"% \x00\xff\" `\n%%\n":       nil,
		"a":                          {"w:a"},
		"a\nb\tc\rd":                 {"w:a", "w:b", "w:c", "w:d"},
		"a%b\nc":                     {"w:a", "w:c"},
		"Az_09_ _a":                  {"w:Az_09_", "s:_", "+w:a"},
		"c4.'x  8va % end":           {"w:c4", "+s:.", "+s:'", "+w:x", "n:8", "+w:va"},
		"007 0 12a":                  {"n:007", "n:0", "n:12", "+w:a"},
		"999999999999999":            {"n:999999999999999"},
		"1.5":                        {"n:1", "+s:.", "+n:5"},
		"a\"b\"1\"\"":                {"w:a", "+q:b", "+n:1", "+q:"},
		`"a % b" % "c`:               {"q:a % b"},
		"\"\x80\xff é\"":             {"q:\x80\xff é"},
		"+-*/\\":                     {"s:+", "+s:-", "+s:*", "+s:/", "+s:\\"},
		strings.Repeat("x", MaxWord): {"w:" + strings.Repeat("x", MaxWord)},
	} {
		l, line, column, e := Scan(s)
		if !Same(l, append(tokens(want...), Token{})) || line != 0 || column != 0 || e != api.OK {
			t.Errorf("Scan(%q) = %v, %d, %d, %d; want %q", s, l, line, column, e, want)
		}
	}
}

// P18.1
func TestPlaces(t *testing.T) {
	l, _, _, e := Scan("a b\n\n  \"c\"d%\r\n\t8 ")
	want := []Token{
		{Kind: Word, Text: "a", Line: 1, Column: 1},
		{Kind: Word, Text: "b", Line: 1, Column: 3},
		{Kind: String, Text: `"c"`, Bytes: "c", Line: 3, Column: 3},
		{Kind: Word, Text: "d", Line: 3, Column: 6, Joined: true},
		{Kind: Number, Text: "8", Value: 8, Line: 4, Column: 2},
		{Line: 4, Column: 4},
	}
	if e != api.OK || !slices.Equal(l, want) {
		t.Errorf("%v, %d; want %v", l, e, want)
	}
	for s, want := range map[string][2]int{"": {1, 1}, "a": {1, 2}, "\n": {2, 1}, "a\n\nb": {3, 2}, "\r\r": {1, 3}, "% x": {1, 4}, "c4.'x  8va % end": {1, 17}, "\"é\"": {1, 5}} {
		l, _, _, _ := Scan(s)
		if end := l[len(l)-1]; end != (Token{Line: want[0], Column: want[1]}) {
			t.Errorf("the end of %q is %v", s, end)
		}
	}
}

// P18.1
func TestStrings(t *testing.T) {
	every := ""
	for c := range 256 {
		if c >= 32 && c != 127 && c != '"' && c != '\\' {
			every += string([]byte{byte(c)})
		}
	}
	for s, want := range map[string]string{
		`""`: "", `"a"`: "a", `"\n\t\\\""`: "\n\t\\\"", `"a\x41"`: "aA", `"\x00\xff\x0a"`: "\x00\xff\n", `"\x414"`: "A4", `"\\x41"`: `\x41`, `"%"`: "%",
		`"` + every + `"`: every,
		`"` + strings.Repeat(`\x61`, MaxString) + `"`: strings.Repeat("a", MaxString),
	} {
		l, _, _, e := Scan(s)
		if e != api.OK || len(l) != 2 || l[0] != (Token{Kind: String, Text: s, Bytes: want, Line: 1, Column: 1}) {
			t.Errorf("Scan(%q) = %v, %d", s, l, e)
		}
	}
}

// P18.1
func TestScanErrors(t *testing.T) {
	long, digits, text := strings.Repeat("x", MaxWord+1), strings.Repeat("1", MaxDigits+1), strings.Repeat("y", MaxString+1)
	full := strings.Repeat("(", MaxTokens)
	for s, want := range map[string]struct {
		line, column int
		e            api.Errno
	}{
		strings.Repeat(" ", MaxSource+1):        {1, 1, api.ErrLong},
		"`" + strings.Repeat(" ", MaxSource):    {1, 1, api.ErrLong},
		"\n`" + strings.Repeat(" ", MaxSource):  {1, 1, api.ErrLong},
		full + "(":                              {1, MaxTokens + 1, api.ErrLimit},
		full + "\n `":                           {2, 2, api.ErrLimit},
		full + "\n " + long:                     {2, 2, api.ErrLimit},
		full + "\n \"`":                         {2, 2, api.ErrLimit},
		full[1:] + "\n `":                       {2, 2, api.ErrByte},
		"`":                                     {1, 1, api.ErrByte},
		"a\n b`":                                {2, 3, api.ErrByte},
		"\x00":                                  {1, 1, api.ErrByte},
		"a\x7f":                                 {1, 2, api.ErrByte},
		"a \v":                                  {1, 3, api.ErrByte},
		"é":                                     {1, 1, api.ErrByte},
		"\n  " + long:                           {2, 3, api.ErrLong},
		"a " + digits:                           {1, 3, api.ErrLong},
		"000000000000000" + "0":                 {1, 1, api.ErrLong},
		digits + long + "`":                     {1, 1, api.ErrLong},
		long + " " + digits:                     {1, 1, api.ErrLong},
		`"`:                                     {1, 1, api.ErrShort},
		"a \"b":                                 {1, 3, api.ErrShort},
		`"a\`:                                   {1, 1, api.ErrShort},
		`"a\"`:                                  {1, 1, api.ErrShort},
		`"a\x`:                                  {1, 1, api.ErrShort},
		`"a\x4`:                                 {1, 1, api.ErrShort},
		`"a\x41`:                                {1, 1, api.ErrShort},
		`"\q"`:                                  {1, 3, api.ErrByte},
		`"\N"`:                                  {1, 3, api.ErrByte},
		`"\x"`:                                  {1, 4, api.ErrByte},
		`"\xg1"`:                                {1, 4, api.ErrByte},
		`"\x1g"`:                                {1, 5, api.ErrByte},
		`"\x1A"`:                                {1, 5, api.ErrByte},
		`"\xA1"`:                                {1, 4, api.ErrByte},
		`"\X41"`:                                {1, 3, api.ErrByte},
		"\"a\nb\"":                              {1, 3, api.ErrByte},
		"\"a\\\nb\"":                            {1, 4, api.ErrByte},
		"\n\"\t\"":                              {2, 2, api.ErrByte},
		"\"\x1f\"":                              {1, 2, api.ErrByte},
		"\"a\x7f\"":                             {1, 3, api.ErrByte},
		"\"\x00":                                {1, 2, api.ErrByte},
		` "` + text + `"`:                       {1, 2, api.ErrLong},
		` "` + text:                             {1, 2, api.ErrShort},
		` "` + text + "\x01":                    {1, 3 + MaxString + 1, api.ErrByte},
		` "` + strings.Repeat(`\n`, 4097) + `"`: {1, 2, api.ErrLong},
		"\" ` " + long:                          {1, 1, api.ErrShort},
		"` \"":                                  {1, 1, api.ErrByte},
	} {
		l, line, column, e := Scan(s)
		if l != nil || line != want.line || column != want.column || e != want.e {
			t.Errorf("Scan(%.20q) = %v, %d, %d, %d; want %v", s, l, line, column, e, want)
		}
	}
}

// P18.1
func TestLimits(t *testing.T) {
	for s, n := range map[string]int{strings.Repeat(" ", MaxSource): 0, strings.Repeat("(", MaxTokens): MaxTokens, strings.Repeat("(", MaxTokens) + "\n% `": MaxTokens, `"` + strings.Repeat("a", MaxString) + `"`: 1} {
		if l, line, column, e := Scan(s); len(l) != n+1 || line != 0 || column != 0 || e != api.OK {
			t.Errorf("Scan(%.20q) = %d tokens, %d, %d, %d", s, len(l), line, column, e)
		}
	}
}

// P18.2
func TestSymbols(t *testing.T) {
	want := strings.Fields(`( ) { } [ ] < > = : ; , . / | @ # ~ ! ? + - * & ^ _ ' $ \`)
	slices.Sort(want)
	if l := Symbols(); !slices.Equal(l, want) {
		t.Errorf("%q", l)
	}
	Symbols()[0] = "x"
	if Symbols()[0] != "!" {
		t.Error("the symbols are shared")
	}
	for c := range 256 {
		s := string([]byte{byte(c)})
		l, _, _, e := Scan(s)
		if symbol := e == api.OK && len(l) == 2 && l[0].Kind == Symbol && l[0].Text == s; symbol != slices.Contains(want, s) {
			t.Errorf("Scan(%q) = %v, %d", s, l, e)
		}
	}
}

// P18.2
func TestIsWord(t *testing.T) {
	for s, want := range map[string]bool{
		"": false, "a": true, "Z": true, "a_1": true, "_a": false, "1a": false, "a b": false, " a": false, "a ": false, "a-": false, "é": false, "aé": false, "a\x00": false, "@": false, "[": false, "`": false, "{": false,
		strings.Repeat("q", MaxWord): true, strings.Repeat("q", MaxWord+1): false,
	} {
		if IsWord(s) != want {
			t.Errorf("IsWord(%q) = %t", s, !want)
		}
	}
	for a := range 256 {
		for b := range 256 {
			s := string([]byte{byte(a), byte(b)})
			l, _, _, e := Scan(s)
			if want := e == api.OK && l[0].Kind == Word && l[0].Text == s; IsWord(s) != want {
				t.Errorf("IsWord(%q) = %t", s, !want)
			}
		}
	}
}

// P18.2
func TestQuote(t *testing.T) {
	for s, want := range map[string]string{
		"": `""`, "a b%": `"a b%"`, "\n\t\\\"": `"\n\t\\\""`, "\x00\x0b\r\x1f\x7f": `"\x00\x0b\x0d\x1f\x7f"`, " ~\x80\xff": "\" ~\x80\xff\"", "é'": `"é'"`,
	} {
		if q, e := Quote(s); q != want || e != api.OK {
			t.Errorf("Quote(%q) = %s, %d; want %s", s, q, e, want)
		}
	}
	if q, e := Quote(strings.Repeat("\x00", MaxString)); len(q) != 4*MaxString+2 || e != api.OK {
		t.Error(len(q), e)
	}
	if q, e := Quote(strings.Repeat("a", MaxString+1)); q != "" || e != api.ErrLong {
		t.Error(q, e)
	}
}

// P18.2, P18.7
func TestQuoted(t *testing.T) {
	for c := range 256 {
		for _, s := range []string{string([]byte{byte(c)}), string([]byte{'x', byte(c), '0'}), string([]byte{byte(c), byte(c)})} {
			q, _ := Quote(s)
			l, _, _, e := Scan(q)
			if e != api.OK || len(l) != 2 || l[0] != (Token{Kind: String, Text: q, Bytes: s, Line: 1, Column: 1}) {
				t.Errorf("Quote(%q) = %s: %v, %d", s, q, l, e)
			}
		}
	}
}

// P18.3
func TestPrint(t *testing.T) {
	for want, words := range map[string][]string{
		"":               nil,
		"a":              {"w:a"},
		"b":              {"+w:b"},
		"a b(8 \"c d\".": {"w:a", "w:b", "+s:(", "+n:8", "q:c d", "+s:."},
	} {
		l := tokens(words...)
		if s := Print(l); s != want {
			t.Errorf("Print(%v) = %q; want %q", l, s, want)
		}
		if s := Print(append(l, Token{Line: 3, Column: 8})); s != want {
			t.Errorf("Print with End = %q; want %q", s, want)
		}
	}
	end := Token{Text: "no", Joined: true}
	odd := []Token{end, {Kind: 9, Text: "x"}, end, {Kind: Word, Text: ""}, {Kind: -1, Text: "y\n", Joined: true}, end}
	if s := Print(odd); s != "x y\n" {
		t.Errorf("%q", s)
	}
}

// P18.3
func TestSame(t *testing.T) {
	a := Token{Kind: String, Text: "t", Value: 1, Bytes: "b", Line: 3, Column: 4, Joined: true}
	moved := a
	moved.Line, moved.Column = 5, 6
	if !Same(nil, []Token{}) || !Same([]Token{a, moved}, []Token{moved, a}) || Same([]Token{a}, nil) || Same([]Token{a}, []Token{a, a}) {
		t.Error("lists")
	}
	for i, change := range []func(t *Token){
		func(t *Token) { t.Kind = Word }, func(t *Token) { t.Text = "u" }, func(t *Token) { t.Value = 2 }, func(t *Token) { t.Bytes = "" }, func(t *Token) { t.Joined = false },
	} {
		b := a
		change(&b)
		if Same([]Token{a, a}, []Token{a, b}) || Same([]Token{b, a}, []Token{a, a}) {
			t.Error(i)
		}
	}
}
