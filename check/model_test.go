package check

import (
	"math"
	"math/rand"
	"reflect"
	"slices"
	"testing"

	"hemiola/api"
	"hemiola/score"
)

// written is an event as it is seen on paper: in which measure and where in it (in quarters), in which staff and voice.
type written struct {
	measure, at, staff, voice int
	x                         *api.Event
}

// chance makes random scores that violate none of the rules before ties.
type chance struct{ *rand.Rand }

func (r chance) event(quarters int) api.Event {
	x := api.Event{Kind: []int{api.Chord, api.Chord, api.Chord, api.Chord, api.Rest, api.Skip}[r.Intn(6)], Value: api.Value{Log: 2}}
	switch quarters {
	case 2:
		x.Value.Log = 1
	case 4:
		x.Value.Log = 0
	}
	if x.Kind != api.Chord {
		return x
	}
	pitches := []api.Pitch{{Octave: 4}, {Step: 1, Alter: -1, Octave: 5}, {Octave: 5, Alter: 1}, {Step: 4, Octave: 5}}
	for _, p := range pitches[r.Intn(2):] {
		if len(x.Heads) == 0 || r.Intn(2) == 0 && p.Alter == 0 {
			x.Heads = append(x.Heads, api.Head{Pitch: p, Tied: r.Intn(5) == 0})
		}
	}
	texts := []string{"", "", "la", "le"}
	for range r.Intn(4) {
		y := api.Syllable{Text: texts[r.Intn(4)], Link: r.Intn(3)}
		if y.Text == "" && y.Link == api.Hyphen {
			y.Link = api.Extender
		}
		x.Lyrics = append(x.Lyrics, y)
	}
	for n := len(x.Lyrics); n > 0 && x.Lyrics[n-1] == (api.Syllable{}); n-- {
		x.Lyrics = x.Lyrics[:n-1]
	}
	return x
}

func (r chance) voice() api.Voice {
	var v api.Voice
	for at := 0; at < 4; {
		n := []int{1, 1, 2, 4}[r.Intn(4)]
		if at+n <= 4 {
			v.Events = append(v.Events, r.event(n))
			at += n
		}
	}
	return v
}

// score makes a score, and what is seen on paper.
func (r chance) score() (s api.Score, paper []written) {
	staves := 1 + r.Intn(2)
	s.Parts = []api.Part{{Staves: slices.Repeat([]api.Staff{{Clef: 1}}, staves)}}
	for range 1 + r.Intn(4) {
		m := api.Measure{Metre: api.Metre{Count: 4, Unit: 4}}
		for range staves {
			c := api.Cell{Voices: []api.Voice{r.voice()}}
			if r.Intn(2) == 0 {
				c.Voices = append(c.Voices, r.voice())
			}
			m.Cells = append(m.Cells, c)
		}
		seldom := func(n int) int { return n * (r.Intn(12) / 11) }
		m.RepeatStart, m.RepeatEnd, m.Endings = r.Intn(12) == 0, seldom(2), seldom(1+r.Intn(2))
		m.Jump, m.Labels = seldom(1), seldom(1<<r.Intn(4))
		s.Measures = append(s.Measures, m)
	}
	s = score.Renumber(s)
	for i, m := range s.Measures {
		for k, c := range m.Cells {
			for n, v := range c.Voices {
				at := 0
				for j := range v.Events {
					paper = append(paper, written{i, at, k, n, &v.Events[j]})
					at += 4 >> v.Events[j].Value.Log
				}
			}
		}
	}
	for range r.Intn(9) {
		from, to := r.Intn(len(paper)), r.Intn(len(paper))
		if r.Intn(8) > 0 {
			to = min(len(paper)-1, from+r.Intn(9))
		}
		join(&s, 1+r.Intn(7), paper[from].x.ID.Number, paper[to].x.ID.Number)
		if r.Intn(20) == 0 {
			s.Spanners[len(s.Spanners)-1].Kind = r.Intn(10) - 1
		}
	}
	return s, paper
}

// wrongTies are the violations of the rules ties and margins.
func wrongTies(s api.Score, paper []written) (ties, margins []api.ID) {
	for _, a := range paper {
		tied := map[api.Pitch]bool{}
		for _, h := range a.x.Heads {
			if h.Tied {
				tied[h.Pitch] = true
			}
		}
		if len(tied) == 0 {
			continue
		}
		// the next event is the first one of the voice that comes later, if no measure without the voice is between
		var next *written
		for i, b := range paper {
			later := b.measure > a.measure || b.measure == a.measure && b.at > a.at
			if b.staff == a.staff && b.voice == a.voice && later {
				next = &paper[i]
				break
			}
		}
		if next != nil && next.measure > a.measure+1 {
			next = nil
		}
		if next != nil {
			for _, h := range next.x.Heads {
				delete(tied, h.Pitch)
			}
		}
		if len(tied) > 0 {
			ties = append(ties, a.x.ID)
		}
		if next == nil || next.measure == a.measure {
			continue
		}
		m, n := s.Measures[a.measure], s.Measures[next.measure]
		if m.RepeatEnd > 0 || m.Jump > 0 || m.Labels == 4 || m.Labels == 8 || n.RepeatStart || n.Endings != m.Endings || n.Labels == 1 || n.Labels == 2 {
			margins = append(margins, a.x.ID)
		}
	}
	return ties, margins
}

// wrongLyrics are the violations of the rule lyrics.
func wrongLyrics(paper []written) []api.ID {
	verse := func(w written, k int) api.Syllable {
		if k < len(w.x.Lyrics) {
			return w.x.Lyrics[k]
		}
		return api.Syllable{}
	}
	var l []api.ID
	for i, a := range paper {
		wrong := false
		for k := range a.x.Lyrics {
			y := verse(a, k)
			var before, after api.Syllable
			for j, b := range paper {
				x := verse(b, k)
				if b.staff != a.staff || b.voice != a.voice || x.Text == "" && x.Link == 0 {
					continue
				}
				if j < i {
					before = x
				}
				if j > i && after == (api.Syllable{}) {
					after = x
				}
			}
			wrong = wrong || y.Link == 1 && after.Text == "" || y.Text == "" && y.Link == 2 && before.Link != 2
		}
		if wrong {
			l = append(l, a.x.ID)
		}
	}
	return l
}

// wrongSpanners are the violations of the rules ends and nesting.
func wrongSpanners(s api.Score, paper []written) (ends, nesting []api.ID) {
	type line struct {
		group, staff, voice, from, to int
	}
	var good []line
	for _, x := range s.Spanners {
		from := slices.IndexFunc(paper, func(w written) bool { return w.x.ID == x.From })
		to := slices.IndexFunc(paper, func(w written) bool { return w.x.ID == x.To })
		if from < 0 || to < 0 || x.Kind < 1 || x.Kind > 7 {
			ends = append(ends, x.ID)
			continue
		}
		a, b := paper[from], paper[to]
		n := line{[]int{0, 1, 2, 2, 4, 4, 6, 7}[x.Kind], a.staff, 0, a.measure*4 + a.at, b.measure*4 + b.at}
		if x.Kind == 1 || x.Kind == 7 {
			n.voice = a.voice
		}
		if a.staff != b.staff || (x.Kind == 1 || x.Kind == 7) && a.voice != b.voice || n.from >= n.to {
			ends = append(ends, x.ID)
			continue
		}
		excluded := false
		for _, o := range good {
			if o.group != n.group || o.staff != n.staff || o.voice != n.voice {
				continue
			}
			common := min(o.to, n.to) - max(o.from, n.from)
			switch n.group {
			case 1:
				inner, outer := o.from >= n.from && o.to <= n.to, n.from >= o.from && n.to <= o.to
				excluded = excluded || common > 0 && inner == outer
			case 2, 6:
				excluded = excluded || common > 0
			default:
				excluded = excluded || common >= 0
			}
		}
		if excluded {
			nesting = append(nesting, x.ID)
		}
		good = append(good, n)
	}
	return ends, nesting
}

// P16.1: rules that concern neighbouring events, and spanners, by what is seen on paper.
func TestJointsModel(t *testing.T) {
	r := chance{rand.New(rand.NewSource(1))}
	count := map[int]int{}
	for range 4000 {
		s, paper := r.score()
		if r.Intn(3) == 0 && len(s.Spanners) > 0 {
			s.Spanners[0].To = api.ID{Number: r.Intn(8)}
		}
		want := map[int][]api.ID{Lyrics: wrongLyrics(paper)}
		want[Ties], want[Margins] = wrongTies(s, paper)
		want[Ends], want[Nesting] = wrongSpanners(s, paper)
		before := 0
		got := map[int][]api.ID{}
		for _, v := range Check(s) {
			if v.Rule < before || v.Rule < Ties {
				t.Fatal(texts(Check(s)))
			}
			before = v.Rule
			got[v.Rule] = append(got[v.Rule], v.Object)
		}
		for rule, l := range want {
			if !slices.Equal(got[rule], l) {
				t.Fatalf("rule %d: %v; want %v; %v", rule, got[rule], l, s)
			}
			count[rule] += len(l)
			if len(l) == 0 {
				count[-rule]++
			}
		}
	}
	for _, rule := range []int{Ties, Lyrics, Ends, Nesting, Margins} {
		if count[rule] < 200 || count[-rule] < 200 {
			t.Error(rule, count)
		}
	}
}

// P1, P16.1, P16.2: whatever the score is, no function panics, violations are in order, and each one names an object.
func TestAnything(t *testing.T) {
	r := chance{rand.New(rand.NewSource(2))}
	rules := map[int]int{}
	for range 6000 {
		s, _ := r.score()
		for range 1 + r.Intn(3) {
			spoil(r, reflect.ValueOf(&s).Elem())
		}
		copied := score.Clone(s)
		l := Check(s)
		known := map[api.ID]bool{{}: true}
		for _, id := range score.IDs(s) {
			known[id] = true
		}
		for i, v := range l {
			rules[v.Rule]++
			if !known[v.Object] || i > 0 && v.Rule < l[i-1].Rule {
				t.Fatal(texts(l))
			}
			blocked := v.Rule > Limits && l[0].Rule == Limits || v.Rule >= Ties && l[0].Rule < Ties
			if blocked {
				t.Fatal(texts(l))
			}
		}
		first, found := First(s)
		if Valid(s) != (len(l) == 0) || found != (len(l) > 0) || found && first != l[0] || len(l) > MaxViolations {
			t.Fatal(texts(l))
		}
		var all []api.Violation
		for rule := 1; rule <= NumRules; rule++ {
			x, _ := Rule(s, rule)
			all = append(all, x...)
		}
		if !slices.Equal(all, l) || !score.Equal(copied, s) {
			t.Fatal(texts(l), texts(all))
		}
		if Valid(s) && !Valid(score.Renumber(s)) {
			t.Fatal(s)
		}
	}
	for rule := 1; rule <= NumRules; rule++ {
		if rules[rule] == 0 {
			t.Error("no violation of", rule, rules)
		}
	}
}

// spoil changes something within a value: a number, a text, a bool, or the length of a list.
func spoil(r chance, v reflect.Value) {
	junk := []int{-1, 0, 1, 2, 3, 5, 8, 16, 100, 127, 1935360, 1 << 42, math.MinInt, math.MaxInt}
	switch v.Kind() {
	case reflect.Int:
		v.SetInt(int64(junk[r.Intn(len(junk))]))
	case reflect.Bool:
		v.SetBool(!v.Bool())
	case reflect.String:
		v.SetString([]string{"", "\n", "x", string(make([]byte, 257))}[r.Intn(4)])
	case reflect.Struct:
		spoil(r, v.Field(r.Intn(v.NumField())))
	case reflect.Array:
		spoil(r, v.Index(r.Intn(v.Len())))
	case reflect.Slice:
		n := v.Len()
		switch k := r.Intn(12); {
		case n == 0 || k == 0:
			v.Set(reflect.Append(v, reflect.Zero(v.Type().Elem())))
		case k == 1:
			v.SetLen(n - 1)
		default:
			spoil(r, v.Index(r.Intn(n)))
		}
	}
}
