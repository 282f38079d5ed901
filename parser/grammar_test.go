package parser

import (
	"math/rand"
	"regexp"
	"slices"
	"strconv"
	"strings"
	"testing"

	"hemiola/api"
	"hemiola/lexer"
)

// chapter is the grammar of the chapter, but for four rules that its text adds to: a tuplet contains events, the words of a spanner and of brackets and their order, and what is joined to a string.
const chapter = `
text    = "score" STRING [ "written" ] [ "last" id { id } ] { part } { measure } { spanner }
id      = "@" NUMBER "." NUMBER
part    = "part" [ id ] STRING [ "transpose" int int ] { staff }
staff   = "staff" [ id ] WORD
measure = "measure" [ id ] options "{" cell { "/" cell } "}"
options = [ "metre" METRE ] [ "length" NUMBER ] [ "key" int ] [ "repeat" ]
          [ "times" NUMBER ] [ "endings" NUMBER ] [ "jump" WORD ]
          [ "segno" ] [ "coda" ] [ "fine" ] [ "tocoda" ]
          [ "swing" NUMBER ] [ "break" WORD ] [ "mark" STRING ]
          { "tempo" NUMBER NUMBER [ "ramp" ] }
cell    = { "clef" NUMBER WORD } [ voice { ";" voice } ]
voice   = { event | tuplet }
tuplet  = "(" NUMBER ":" NUMBER ( event | tuplet ) { event | tuplet } ")"
event   = [ id ] [ "grace" "(" grace { grace } ")" ] body [ "[" marks "]" ] { syllable }
body    = head ":" VALUE | "<" head { head } ">" ":" VALUE | "r" ":" VALUE | "R" | "s" ":" VALUE
head    = PITCH [ "~" ] [ "!" | "?" ]
grace   = [ "/" ] PITCH ":" NUMBER
syllable = STRING [ HYPHEN | UNDERSCORE ] | "_"
spanner = kind [ id ] "(" id id ")"
int     = [ "-" ] NUMBER
kind    = "slur" | "crescendo" | "diminuendo" | "octaveup" | "octavedown" | "pedal" | "trill"
PITCH   = LETTER { MOREPITCH }
VALUE   = NUMBER { PERIOD } | "b" { PERIOD }
METRE   = NUMBER { MOREMETRE }
marks   = OTHER | "staccato" [ markb ] | markb
markb   = OTHER | "tenuto" [ markc ] | markc
markc   = OTHER | "accent" [ markd ] | markd
markd   = OTHER | "marcato" [ marke ] | marke
marke   = OTHER | "fermata" [ markf ] | markf
markf   = OTHER | ( "trill" | "mordent" | "inverse" | "turn" ) [ markg ] | markg
markg   = OTHER | ( "ppp" | "pp" | "p" | "mp" | "mf" | "f" | "ff" | "fff" | "sfz" ) [ markh ] | markh
markh   = OTHER | ( "up" | "down" ) [ marki ] | marki
marki   = OTHER | ( "apart" | "join" ) [ OTHER ]
`

// terminals says of which tokens the other names are.
var terminals = map[string]func(t lexer.Token) bool{
	"STRING": func(t lexer.Token) bool { return t.Kind == lexer.String },
	"NUMBER": func(t lexer.Token) bool { return t.Kind == lexer.Number },
	"WORD":   func(t lexer.Token) bool { return t.Kind == lexer.Word },
	"LETTER": func(t lexer.Token) bool { return t.Kind == lexer.Word && strings.Contains("ABCDEFG", t.Text[:1]) },
	"MOREPITCH": func(t lexer.Token) bool {
		return t.Joined && (t.Kind == lexer.Number || t.Text == "#" || t.Text == "-")
	},
	"MOREMETRE": func(t lexer.Token) bool {
		return t.Joined && (t.Kind == lexer.Number || t.Text == "+" || t.Text == "/")
	},
	"PERIOD":     func(t lexer.Token) bool { return t.Joined && t.Text == "." },
	"HYPHEN":     func(t lexer.Token) bool { return t.Joined && t.Text == "-" },
	"UNDERSCORE": func(t lexer.Token) bool { return t.Joined && t.Text == "_" },
	"OTHER": func(t lexer.Token) bool {
		return t.Kind == lexer.Word && !slices.Contains(strings.Fields("staccato tenuto accent marcato fermata trill mordent inverse turn ppp pp p mp mf f ff fff sfz up down apart join"), t.Text)
	},
}

// A grammar has for each name lists of names and, in quotation marks, words.
type grammar map[string][][]string

// read adds the rule of a name, given by tokens up to a closing one, and returns the tokens behind.
func (g grammar) read(name string, l []string) []string {
	now := []string{}
	for len(l) > 0 {
		x := l[0]
		l = l[1:]
		inner := name + "/" + strconv.Itoa(len(l))
		switch x {
		case "|":
			g[name] = append(g[name], now)
			now = []string{}
		case "]", "}", ")":
			g[name] = append(g[name], now)
			return l
		case "[", "{", "(":
			l = g.read(inner, l)
			if x == "{" {
				for i := range g[inner] {
					g[inner][i] = append(g[inner][i], inner)
				}
			}
			if x != "(" {
				g[inner] = append(g[inner], nil)
			}
			now = append(now, inner)
		default:
			now = append(now, x)
		}
	}
	g[name] = append(g[name], now)
	return nil
}

// rules returns the grammar of the chapter.
func rules() grammar {
	g := grammar{}
	rule := regexp.MustCompile(`(?m)^(\w+) +=((?:.*\n +)*.*)$`)
	token := regexp.MustCompile(`"[^"]*"|\w+|[\[\]{}()|]`)
	for _, m := range rule.FindAllStringSubmatch(chapter, -1) {
		g.read(m[1], token.FindAllString(m[2], -1))
	}
	return g
}

// A state is a list of a rule that has been followed up to a dot, beginning at a token.
type state struct {
	name             string
	list, dot, begin int
}

// first returns the index of the first token that cannot stand there, or -1 if the tokens follow the rule of a name, by Earley's algorithm.
func (g grammar) first(name string, l []lexer.Token, empty map[string]bool) int {
	sets := make([][]state, len(l)+1)
	known := make([]map[state]bool, len(l)+1)
	add := func(at int, s state) {
		if known[at] == nil {
			known[at] = map[state]bool{}
		}
		if !known[at][s] {
			known[at][s] = true
			sets[at] = append(sets[at], s)
		}
	}
	predict := func(at int, name string) {
		for i := range g[name] {
			add(at, state{name: name, list: i, begin: at})
		}
	}
	predict(0, name)
	for at, t := range l {
		complete := false
		for i := 0; i < len(sets[at]); i++ {
			s := sets[at][i]
			list := g[s.name][s.list]
			if s.dot == len(list) {
				complete = complete || s.name == name && s.begin == 0
				for k := 0; k < len(sets[s.begin]); k++ {
					if p := sets[s.begin][k]; p.dot < len(g[p.name][p.list]) && g[p.name][p.list][p.dot] == s.name {
						add(at, state{p.name, p.list, p.dot + 1, p.begin})
					}
				}
				continue
			}
			next := list[s.dot]
			if _, inner := g[next]; inner {
				predict(at, next)
				// What is empty may have been completed before it was wanted here.
				if empty[next] {
					add(at, state{s.name, s.list, s.dot + 1, s.begin})
				}
			} else if fits(next, t) {
				add(at+1, state{s.name, s.list, s.dot + 1, s.begin})
			}
		}
		if t.Kind == lexer.End {
			if complete {
				return -1
			}
			return at
		}
		if len(sets[at+1]) == 0 {
			return at
		}
	}
	return -1
}

// empty returns the names that can stand for nothing.
func (g grammar) empty() map[string]bool {
	found := map[string]bool{}
	for n := -1; n < len(found); {
		n = len(found)
		for name, lists := range g {
			for _, l := range lists {
				if !slices.ContainsFunc(l, func(x string) bool { return !found[x] }) {
					found[name] = true
				}
			}
		}
	}
	return found
}

func fits(name string, t lexer.Token) bool {
	if is, found := terminals[name]; found {
		return t.Kind != lexer.End && is(t)
	}
	return (t.Kind == lexer.Word || t.Kind == lexer.Symbol) && `"`+t.Text+`"` == name
}

// changed returns items of which some are lacking, doubled, exchanged, joined or replaced.
func changed(r *rand.Rand, l []item) []item {
	pool := append(Keywords(), lexer.Symbols()...)
	pool = append(pool, "R", "r", "s", "b", "treble", "alto", "foo", "C4", "G", "4", "8", "2", "1", "900", "3", `"x"`, `""`, "(", ")", "{", "}", "@", "_", "-", ".", ":", "<", ">", "[", "]", ";", "/")
	l = slices.Clone(l)
	for range 1 + r.Intn(2) {
		i := r.Intn(len(l) + 1)
		x := item{text: pool[r.Intn(len(pool))], joined: r.Intn(4) == 0 && i > 0}
		if i == len(l) {
			l = append(l, x)
			continue
		}
		switch r.Intn(7) {
		case 0, 1:
			l = slices.Delete(l, i, i+1)
		case 2:
			l = slices.Insert(l, i, l[i])
		case 3:
			k := r.Intn(len(l))
			l[i], l[k] = l[k], l[i]
		case 4:
			l = slices.Insert(l, i, x)
		case 5:
			l[i] = x
		case 6:
			l[i].joined = !l[i].joined && i > 0
		}
		if len(l) == 0 {
			return nil
		}
	}
	return l
}

// P19.1, P19.3: texts that are changed at random have the errors of the grammar.
func TestGrammar(t *testing.T) {
	g := rules()
	empty := g.empty()
	seen := map[api.Errno]int{}
	try := func(name, s string, read func(s string) (bool, int, int, api.Errno)) {
		l, line, column, e := lexer.Scan(s)
		zero, gotLine, gotColumn, got := read(s)
		seen[got]++
		if e != api.OK {
			if gotLine != line || gotColumn != column || got != e || !zero {
				t.Fatalf("%q: %d, %d, %d; want %d, %d, %d", s, gotLine, gotColumn, got, line, column, e)
			}
			return
		}
		at := g.first(name, l, empty)
		place := lexer.Token{Line: 1 << 30}
		if at >= 0 {
			place = l[at]
		}
		before := gotLine < place.Line || gotLine == place.Line && gotColumn < place.Column
		switch {
		case got == api.OK && at >= 0, got == api.ErrSyntax && (gotLine != place.Line || gotColumn != place.Column), got != api.OK && got != api.ErrSyntax && !before, got != api.OK && !zero:
			t.Fatalf("%q: %d, %d, %d; the grammar says %d, %d", s, gotLine, gotColumn, got, place.Line, place.Column)
		}
	}
	for seed := range int64(1000) {
		w := newWriter(seed)
		w.score()
		// Long texts take long.
		if len(w.items) > 300 {
			continue
		}
		s, _ := render(w.Rand, w.items)
		if l, _, _, _ := lexer.Scan(s); g.first("text", l, empty) >= 0 {
			t.Fatalf("the grammar does not permit %q", s)
		}
		for range 3 {
			s, _ := render(w.Rand, changed(w.Rand, w.items))
			try("text", s, readZero)
		}
		w.items, w.detached = nil, true
		w.event()
		for range 6 {
			s, _ := render(w.Rand, changed(w.Rand, w.items))
			try("event", s, eventZero)
			try("voice", s, voiceZero)
		}
	}
	for e, n := range map[api.Errno]int{api.OK: 300, api.ErrSyntax: 3000, api.ErrPitch: 10, api.ErrValue: 3, api.ErrRange: 5, api.ErrUnknown: 50} {
		if seen[e] < n {
			t.Errorf("the error %d has been seen %d times", e, seen[e])
		}
	}
}
