package check

import (
	"math"
	"math/bits"
	"math/rand"
	"slices"
	"strconv"
	"strings"
	"testing"

	"hemiola/api"
	"hemiola/score"
)

// bar is what a measure says of repeats.
type bar struct {
	start          bool
	times, endings int
}

// repeated returns bars like "." (plain), "|" (RepeatStart), ":2" (RepeatEnd 2), "e3" (Endings 3), "|:2" and "e1:2", one for each word.
func repeated(text string) []bar {
	var l []bar
	for _, word := range strings.Fields(text) {
		b := bar{start: strings.HasPrefix(word, "|")}
		word, times, closed := strings.Cut(strings.Trim(word, ".|"), ":")
		if closed {
			b.times = number(times)
		}
		if word != "" {
			b.endings = number(strings.TrimPrefix(word, "e"))
		}
		l = append(l, b)
	}
	return l
}

// resting returns a score of rests with repeats. The ids of the measures are @0.3, @0.5 and so on.
func resting(l []bar) api.Score {
	s := read([]int{1}, slices.Repeat([]string{"m"}, len(l))...)
	for i, b := range l {
		s.Measures[i].RepeatStart, s.Measures[i].RepeatEnd, s.Measures[i].Endings = b.start, b.times, b.endings
	}
	return s
}

// violated returns the indices of the measures that violate a rule, and whether other rules are violated.
func violated(s api.Score, rule int) (l []int, others bool) {
	for _, v := range Check(s) {
		i := slices.IndexFunc(s.Measures, func(m api.Measure) bool { return m.ID == v.Object })
		l = append(l, i)
		others = others || v.Rule != rule
	}
	return l, others
}

// P16.1: the rule repeats.
func TestRepeats(t *testing.T) {
	for _, c := range []struct {
		text string
		want []int
	}{
		{".", nil}, {". . .", nil}, {":2", nil}, {". :2", nil}, {"|:2", nil}, {"| :2", nil}, {"| . . :8", nil}, {". | . :3 . .", nil},
		{":2 :2 |:2 . :4", nil}, {". :2 . | :2 . :2 | . :2 .", nil},
		// a repeat that is not closed, or opened twice
		{"|", []int{0}}, {". | .", []int{2}}, {"| | :2", []int{1}}, {"| |:2", []int{1}}, {"| . | :2 :2", []int{2}}, {":2 | .", []int{2}},
		// numbers that are none
		{":1", []int{0}}, {":9", []int{0}}, {":-1", []int{0}}, {". | :1 | e256 e-1 . |", []int{2, 4, 5}}, {"e255", []int{0}}, {". e255 :1", []int{2}}, {"e256", []int{0}},
		// endings
		{". e1:2 e2", nil}, {"| e1:2 e2", nil}, {"| . e1:2 e2 .", nil}, {". . e1 e1 e1:2 e2 e2", nil}, {". e1:2 e2 . e1:2 e2", nil}, {". e1:2 e2 :2", nil}, {". e1:2 e2 | :2", nil},
		{". e1:2 e2 |:3 . e3:4 e4:4 e8 | e1:2 e2 .", nil}, {". . | . e1:3 e2:3 e4", nil}, {". e3:3 e4", nil}, {". e1:3 e2 e2:3 e4 e4 .", nil}, {". e5:4 e2:4 e8", nil}, {". e127:8 e128", nil}, {". e1:8 e64:8 e62:8 e128", nil}, {"| e9:5 e2:5 e4:5 e16", nil},
		// example 2
		{"| e1:2 e2 .", nil}, {"| e1 e2 .", []int{2}},
		// no body
		{"e1:2 e2", []int{0}}, {":2 e1:2 e2", []int{1}}, {". e1:2 e2 e1:2 e2", []int{3}}, {"|:2 e1:2 e2", []int{1}}, {". :2 e1:2 e2", []int{2}},
		// endings begin with the first pass, and end with the last one
		{". e2:2 e1", []int{1}}, {". e2", []int{1}}, {". e4", []int{1}}, {". e128", []int{1}}, {". e129", []int{1}}, {". e255", []int{1}}, {". e254", []int{1}}, {". e1:2 e4", []int{2}}, {". e1:3 e4", []int{2}}, {". e1:3 e2:3 e8", []int{3}}, {". e1:2 e3", []int{2}}, {". e1:3 e6", []int{2}}, {". e1:3 e3", []int{2}}, {". e1:4 e6:4 e2", []int{3}}, {". e1:4 e6:4 e12", []int{3}},
		// the first ending is not the last one
		{". e1", []int{1}}, {". e1 .", []int{2}}, {". e1:2", []int{1}}, {". e1:2 .", []int{2}}, {". e3:2 e4", []int{1}}, {". e3:3", []int{1}}, {". e3:2", []int{1}}, {". e64", []int{1}}, {". e65 e65", []int{2}}, {". e65:7 e2", []int{1}}, {". e65:8 e62:8 e128", nil},
		// all RepeatEnds are the number of passes, and stand at the ends of endings
		{". e1:3 e2:2 e4", []int{2}}, {". e1:3 e2:4 e4", []int{2}}, {". e1:3 e2 e4", []int{3}}, {". e1:3 e2:3 e4:3", []int{3}}, {". e1:2 e2:2", []int{2}}, {". e1:2 e2 e2:2", []int{3}}, {". e1:2 e1:2 e2", []int{2}}, {". e1:2 e1 e2", []int{2}}, {". e1:3 e2:3 e2 e4", []int{3}}, {". e1:2 e2 e1", []int{3}}, {". e1:2 e2 e4", []int{3}}, {". e1:3 e2:3 .", []int{3}}, {". e1:3 e2:3", []int{2}},
		// other measures between endings
		{". e1:2 . e2", []int{2}}, {". e1 . e1:2 e2", []int{2}}, {". e1:2 | e2", []int{2}}, {". e1:2 :2", []int{2}}, {". e1:3 e2:3 |:2", []int{3}},
		// RepeatStart only at the first measure of the body
		{"| |", []int{1}}, {". |e1:2 e2", []int{1}}, {". e1 |e1:2 e2", []int{2}}, {". e1:2 |e2", []int{2}}, {". e1:2 e2 |e2", []int{3}}, {"|e1:2 e2", []int{0}}, {"| . | e1:2 e2", []int{2}},
		// a group must have endings, or a RepeatEnd
		{"| . .", []int{2}}, {":2 | . . .", []int{4}}, {". e1:2 e2 | .", []int{4}},
	} {
		s := resting(repeated(c.text))
		if l, others := violated(s, Repeats); !slices.Equal(l, c.want) || others {
			t.Errorf("%q: %v; want %v", c.text, l, c.want)
		}
	}
	l := repeated(". :2 . e1:2")
	l[0].times, l[1].endings = math.MinInt, math.MaxInt
	if l, others := violated(resting(l), Repeats); !slices.Equal(l, []int{0, 1}) || others {
		t.Error(l)
	}
}

// isGroups reports whether bars are groups and bars without repeats, by the chapter's definition: it tries all divisions. With after, a group without a RepeatStart may begin at the first one.
func isGroups(l []bar, after bool) bool {
	if len(l) == 0 || l[0] == (bar{}) && isGroups(l[1:], false) {
		return true
	}
	for n := 1; n <= len(l); n++ {
		if (after || l[0].start) && isGroup(l[:n]) && isGroups(l[n:], true) {
			return true
		}
	}
	return false
}

// isGroup reports whether bars are a single group with a RepeatEnd or endings.
func isGroup(l []bar) bool {
	count := slices.IndexFunc(l, func(b bar) bool { return b.endings != 0 })
	if count < 0 {
		count = len(l)
	}
	if count == 0 {
		return false
	}
	for i, b := range l {
		if i > 0 && b.start || i < count-1 && b.times != 0 {
			return false
		}
	}
	if count == len(l) {
		return l[count-1].times != 0
	}
	return l[count-1].times == 0 && areEndings(l[count:])
}

func areEndings(l []bar) bool {
	var runs [][]bar
	for _, b := range l {
		if b.endings == 0 {
			return false
		}
		if k := len(runs) - 1; k >= 0 && runs[k][0].endings == b.endings {
			runs[k] = append(runs[k], b)
		} else {
			runs = append(runs, []bar{b})
		}
	}
	all, ones := 0, 0
	for _, r := range runs {
		all, ones = all|r[0].endings, ones+bits.OnesCount(uint(r[0].endings))
	}
	n := bits.Len(uint(all))
	last := runs[len(runs)-1]
	if len(runs) < 2 || ones != n || all != 1<<n-1 || runs[0][0].endings&1 == 0 || last[0].endings != 1<<(n-1) {
		return false
	}
	for k, r := range runs {
		for i, b := range r {
			times := 0
			if k < len(runs)-1 && i == len(r)-1 {
				times = n
			}
			if b.times != times {
				return false
			}
		}
	}
	return true
}

// continues reports whether some bars after the last one make groups of all: none, one with a RepeatEnd, or what a group of endings lacks.
func continues(l []bar) bool {
	if isGroups(l, true) || isGroups(append(slices.Clone(l), bar{times: 2}), true) {
		return true
	}
	used := 0
	for _, b := range l {
		used |= b.endings
		if b.endings == 0 {
			used = 0
		}
	}
	for n := 2; n <= 8; n++ {
		last := bar{endings: 1 << (n - 1)}
		rest := bar{endings: (last.endings - 1) &^ used, times: n}
		again := bar{endings: l[len(l)-1].endings, times: n}
		for _, more := range [][]bar{{last}, {rest, last}, {again, last}, {again, rest, last}} {
			if isGroups(slices.Concat(l, more), true) {
				return true
			}
		}
	}
	return false
}

// firstWrong is the index of the bar that violates the rule, or -1.
func firstWrong(l []bar) int {
	for i := range l {
		if !continues(l[:i+1]) {
			return i
		}
	}
	if !isGroups(l, true) {
		return len(l) - 1
	}
	return -1
}

// groups makes random groups that violate nothing, and then often a few changes.
func groups(r *rand.Rand) []bar {
	var l []bar
	for range 1 + r.Intn(2) {
		if r.Intn(3) == 0 {
			l = append(l, make([]bar, r.Intn(3))...)
		}
		body := make([]bar, 1+r.Intn(2))
		body[0].start = r.Intn(3) == 0
		l = append(l, body...)
		n := 2 + r.Intn(3)
		if r.Intn(8) == 0 {
			n = 2 + r.Intn(7)
		}
		if r.Intn(3) == 0 {
			l[len(l)-1].times = n
			continue
		}
		for left := 1<<(n-1) - 1; left > 0; {
			e := left & r.Intn(256)
			if e == 0 || left == 1<<(n-1)-1 {
				e |= left & -left
			}
			l = append(l, slices.Repeat([]bar{{endings: e}}, 1+r.Intn(5)/4)...)
			l[len(l)-1].times = n
			left &^= e
		}
		l = append(l, slices.Repeat([]bar{{endings: 1 << (n - 1)}}, 1+r.Intn(5)/4)...)
	}
	return l
}

// spoilBars changes a few bars.
func spoilBars(r *rand.Rand, l []bar) []bar {
	for range r.Intn(3) {
		i := r.Intn(len(l))
		switch r.Intn(6) {
		case 0:
			l[i].start = !l[i].start
		case 1:
			l[i].times = []int{0, 0, 2, 3, 4, 8}[r.Intn(6)]
		case 2:
			l[i].endings = []int{0, 1, 2, 4, 1 << r.Intn(8), r.Intn(256)}[r.Intn(6)]
		case 3:
			l = slices.Delete(l, i, min(len(l), i+1+r.Intn(3)))
		case 4:
			l = slices.Insert(l, i, l[r.Intn(len(l))])
		case 5:
			l = l[:i+1]
		}
		if len(l) == 0 {
			return []bar{{}}
		}
	}
	return l
}

// P16.1: the rule repeats, by its definition.
func TestRepeatsModel(t *testing.T) {
	r := rand.New(rand.NewSource(1))
	count := map[string]int{}
	for k := range 20000 {
		l := groups(r)
		if k%4 > 0 {
			l = spoilBars(r, l)
		}
		if k%8 == 1 {
			l = nil
			for range 1 + r.Intn(5) {
				l = append(l, bar{r.Intn(4) == 0, []int{0, 0, 2, 3}[r.Intn(4)], []int{0, 0, 1, 2, 3, 4}[r.Intn(6)]})
			}
		}
		var want []int
		if i := firstWrong(l); i >= 0 {
			want = []int{i}
			count["wrong"]++
			if i < len(l)-1 {
				count["inner"]++
			}
		}
		if k%4 == 0 && want != nil {
			t.Fatalf("the model rejects %v", l)
		}
		if got, others := violated(resting(l), Repeats); !slices.Equal(got, want) || others {
			t.Fatalf("%v: %v; want %v", l, got, want)
		}
	}
	if count["inner"] < 3000 || count["wrong"]-count["inner"] < 1000 {
		t.Error(count)
	}
}

// P16.1: all bars of a few kinds, in lists of up to four.
func TestRepeatsAll(t *testing.T) {
	var kinds []bar
	for _, start := range []bool{false, true} {
		for _, times := range []int{0, 2, 3} {
			for _, endings := range []int{0, 1, 2, 4} {
				kinds = append(kinds, bar{start, times, endings})
			}
		}
	}
	lists := [][]bar{nil}
	for n := 1; n <= 4; n++ {
		var longer [][]bar
		for _, l := range lists {
			if len(l) > 0 && !continues(l) {
				continue // the first wrong bar stays the same
			}
			for _, b := range kinds {
				longer = append(longer, append(slices.Clone(l), b))
			}
		}
		lists = longer
		for _, l := range lists {
			var want []int
			if i := firstWrong(l); i >= 0 {
				want = []int{i}
			}
			if got, others := violated(resting(l), Repeats); !slices.Equal(got, want) || others {
				t.Fatalf("%v: %v; want %v", l, got, want)
			}
		}
	}
}

// labelled returns a score of rests with jumps and labels, one for each word like "." (none), "s", "cf" (labels by their letters s, c, f, t) and "s3" (with the jump 3).
func labelled(text string) api.Score {
	words := strings.Fields(text)
	s := resting(make([]bar, len(words)))
	for i, word := range words {
		for _, r := range strings.Trim(word, ".") {
			switch k := strings.IndexRune("scft", r); {
			case k >= 0:
				s.Measures[i].Labels |= 1 << k
			default:
				s.Measures[i].Jump = int(r - '0')
			}
		}
	}
	return s
}

// P16.1: the rule jumps.
func TestJumps(t *testing.T) {
	for _, c := range []struct {
		text string
		want []int
	}{
		{". .", nil}, {"s c f t", nil}, {"scft .", nil}, {"scft1", nil},
		{"1", nil}, {". 1 .", nil}, {"7", []int{0}}, {"8 .", []int{0}},
		// labels that are needed
		{"2", []int{0}}, {"3", []int{0}}, {"4", []int{0}}, {"5", []int{0}}, {"6", []int{0}},
		{"f . 2", nil}, {"f2", nil}, {". 2 f", []int{1}}, {"c t s 2", []int{3}},
		{"t c 3", nil}, {"t 3 c", nil}, {"t3 c", nil}, {"3 t c", []int{0}}, {"t 3", []int{1}}, {"c 3", []int{1}}, {"c t 3", []int{2}}, {"tc 3", []int{1}}, {"tc 3 .", []int{1}}, {". t 3 . c", nil}, {". 3 t c", []int{1}},
		{"s 4", nil}, {"s4", nil}, {"4 s", []int{0}}, {"f 4", []int{1}},
		{"s f 5", nil}, {"f s 5", nil}, {"sf5", nil}, {"f 5", []int{1}}, {"s 5", []int{1}}, {"s 5 f", []int{1}}, {"f 5 s", []int{1}},
		{"s t 6 c", nil}, {"t s c 6", nil}, {"t 6 c", []int{1}}, {"s 6 c", []int{1}}, {"s t 6", []int{2}}, {"s c t 6", []int{3}}, {"t 6 c s", []int{1}}, {"s 6 t c", []int{1}},
		// twice
		{"1 1", []int{1}}, {"1 . 1 1", []int{2, 3}}, {"1 7", []int{1}}, {"7 1", []int{0, 1}}, {"s s", []int{1}}, {"sc f tc", []int{2}}, {"c . c c", []int{2, 3}}, {"sf 2 f", []int{2}}, {"f f 2", []int{1}},
		// of several labels, only the first one is looked at
		{". 2 f f", []int{1, 3}}, {"f 2 f", []int{2}}, {"t c t 3", []int{2}}, {"c t c 3", []int{2, 3}}, {". 3 t c", []int{1}},
	} {
		if l, others := violated(labelled(c.text), Jumps); !slices.Equal(l, c.want) || others {
			t.Errorf("%q: %v; want %v", c.text, l, c.want)
		}
	}
}

// P16.1: the rule jumps with repeats, and with numbers that are none.
func TestJumpsNumbers(t *testing.T) {
	try(t, func() api.Score { return resting(repeated("| . e1:2 e2 .")) }, []variant{
		{"in the body", func(s *api.Score) { s.Measures[0].Labels, s.Measures[1].Labels = 5, 8 }, ""},
		{"a jump in the body", func(s *api.Score) { s.Measures[1].Jump = 1 }, ""},
		{"a jump in an ending", func(s *api.Score) { s.Measures[2].Jump = 1 }, "jumps @0.7"},
		{"a jump in the last ending", func(s *api.Score) { s.Measures[3].Jump = 1 }, "jumps @0.9"},
		{"a label in an ending", func(s *api.Score) { s.Measures[3].Labels = 1 }, "jumps @0.9"},
		{"after the endings", func(s *api.Score) { s.Measures[4].Labels, s.Measures[4].Jump = 15, 1 }, ""},
		{"at the end of a repeat", func(s *api.Score) { s.Measures[4].RepeatEnd, s.Measures[4].Jump = 2, 1 }, "jumps @0.11"},
		{"a label at the end of a repeat", func(s *api.Score) { s.Measures[4].RepeatEnd, s.Measures[4].Labels = 2, 2 }, "jumps @0.11"},
		{"with a repeat that is wrong", func(s *api.Score) { s.Measures[4].RepeatEnd, s.Measures[4].Labels = -2, 2 }, "repeats @0.11, jumps @0.11"},
		{"with endings that are wrong", func(s *api.Score) { s.Measures[4].Endings, s.Measures[4].Jump = 256, 1 }, "repeats @0.11, jumps @0.11"},
		{"jump -1", func(s *api.Score) { s.Measures[1].Jump = -1 }, "jumps @0.5"},
		{"jump -1, and another one", func(s *api.Score) { s.Measures[1].Jump, s.Measures[4].Jump = -1, 1 }, "jumps @0.5, jumps @0.11"},
		{"many jumps", func(s *api.Score) { s.Measures[0].Jump, s.Measures[4].Jump = math.MinInt, math.MaxInt }, "jumps @0.3, jumps @0.11"},
		{"labels -1", func(s *api.Score) { s.Measures[1].Labels = -1 }, "jumps @0.5"},
		{"labels 16", func(s *api.Score) { s.Measures[1].Labels = 16 }, "jumps @0.5"},
		{"labels 31, one of them needed", func(s *api.Score) { s.Measures[1].Labels, s.Measures[4].Jump = 31, 4 }, "jumps @0.5"},
		{"many labels", func(s *api.Score) { s.Measures[1].Labels = math.MaxInt }, "jumps @0.5"},
		{"labels 16 and others", func(s *api.Score) { s.Measures[0].Labels, s.Measures[1].Labels = 16, 1 }, "jumps @0.3"},
	})
}

// P16.1: the rule jumps, by its definition.
func TestJumpsModel(t *testing.T) {
	r := rand.New(rand.NewSource(2))
	good := 0
	for range 30000 {
		n := 1 + r.Intn(5)
		s := resting(make([]bar, n))
		for i := range n {
			m := &s.Measures[i]
			if r.Intn(3) == 0 {
				m.Labels = r.Intn(16) & r.Intn(16)
			}
			if r.Intn(n+1) == 0 {
				m.Jump = r.Intn(8)
			}
		}
		var want []int
		for i, m := range s.Measures {
			has := func(k, label int) bool { return s.Measures[k].Labels/label%2 == 1 }
			// where the first measure with a label is; after the end if there is none
			where := func(label int) int {
				k := 0
				for k < n && !has(k, label) {
					k++
				}
				return k
			}
			wrong := m.Jump > 6
			for k := range i {
				wrong = wrong || m.Jump > 0 && s.Measures[k].Jump > 0 || has(i, 1) && has(k, 1) || has(i, 2) && has(k, 2) || has(i, 4) && has(k, 4) || has(i, 8) && has(k, 8)
			}
			switch m.Jump {
			case 2, 5:
				wrong = wrong || where(4) > i
			case 3, 6:
				wrong = wrong || where(8) > i || where(2) == n || where(2) <= where(8)
			}
			if m.Jump >= 4 && where(1) > i || wrong {
				want = append(want, i)
			}
		}
		if got, others := violated(s, Jumps); !slices.Equal(got, want) || others {
			t.Fatalf("%v: %v; want %v", s.Measures, got, want)
		}
		if len(want) == 0 {
			good++
		}
	}
	if good < 5000 || good > 25000 {
		t.Error(good)
	}
}

// P16.1: the rule tempi.
func TestTempi(t *testing.T) {
	tempi := func(l ...int) func(s *api.Score) {
		return func(s *api.Score) {
			for i := 0; i < len(l); i += 2 {
				s.Measures[2].Tempi = append(s.Measures[2].Tempi, api.TempoMark{At: l[i], Micros: l[i+1], Ramp: i > 0})
			}
		}
	}
	swing := func(n int) func(s *api.Score) {
		return set(func(s *api.Score) *int { return &s.Measures[1].Swing }, n)
	}
	pause := func(n int) func(s *api.Score) {
		return set(func(s *api.Score) *int { return &s.Measures[0].Break }, n)
	}
	const end, wrong = whole / 2, "tempi @0.17"
	l := []variant{
		{"marks", tempi(0, 1, 1, 60000000, end-1, 500000), ""}, {"the same tick", tempi(4, 1, 4, 1), wrong}, {"an earlier tick", tempi(4, 1, 3, 1), wrong},
		{"before the measure", tempi(-1, 1), wrong}, {"long before the measure", tempi(math.MinInt, 1), wrong}, {"after the measure", tempi(end, 1), wrong}, {"long after the measure", tempi(0, 1, math.MaxInt, 1), wrong},
		{"no time", tempi(0, 0), wrong}, {"negative time", tempi(0, -1), wrong}, {"too slow", tempi(0, 60000001), wrong}, {"much too slow", tempi(0, 5, 5, math.MaxInt), wrong},
		{"several", func(s *api.Score) {
			tempi(-1, 0)(s)
			s.Measures[2].Swing = 1
			swing(2)(s)
			pause(5)(s)
		}, "tempi @0.6, tempi @0.12, " + wrong},
		{"measures on their own", func(s *api.Score) {
			s.Measures[0].Tempi = []api.TempoMark{{At: 5, Micros: 1}}
			s.Measures[1].Tempi = []api.TempoMark{{At: 5, Micros: 1}}
		}, ""},
		{"the length of the measure", func(s *api.Score) {
			s.Measures[1].Length, s.Measures[1].Tempi = 2*whole, []api.TempoMark{{At: 2*whole - 1, Micros: 1}}
			for i := range s.Measures[1].Cells {
				voiceOf(s, 1, i, 0).Events = []api.Event{{ID: voiceOf(s, 1, i, 0).Events[0].ID, Kind: api.MeasureRest}}
			}
		}, ""},
	}
	for n, want := range map[int]string{0: "", 50: "", 51: "", 75: "", 49: "tempi @0.12", 76: "tempi @0.12", 1: "tempi @0.12", -1: "tempi @0.12", math.MinInt: "tempi @0.12", math.MaxInt: "tempi @0.12"} {
		l = append(l, variant{"swing " + strconv.Itoa(n), swing(n), want})
	}
	for n, want := range map[int]string{0: "", 1: "", 2: "", 3: "", 4: "tempi @0.6", -1: "tempi @0.6", math.MinInt: "tempi @0.6", math.MaxInt: "tempi @0.6"} {
		l = append(l, variant{"break " + strconv.Itoa(n), pause(n), want})
	}
	try(t, base, l)
}

// P16.4: a valid score stays valid if it is cloned or renumbered, and if its spanners are in another order.
func TestConsequences(t *testing.T) {
	s := nests()
	for _, x := range [][3]int{{1, 5, 15}, {1, 5, 8}, {1, 6, 7}, {2, 5, 6}, {3, 6, 8}, {6, 6, 13}} {
		join(&s, x[0], x[1], x[2])
	}
	s.Measures[0].ID, s.Spanners[2].ID = api.ID{Site: 4, Number: 9}, api.ID{Site: 7, Number: 1}
	s.Last = append(s.Last, api.ID{Site: 4, Number: 10}, api.ID{Site: 7, Number: 1})
	r := rand.New(rand.NewSource(3))
	for range 50 {
		if l := Check(s); len(l) > 0 || !Valid(score.Clone(s)) || !Valid(score.Renumber(s)) {
			t.Fatal(texts(l))
		}
		r.Shuffle(len(s.Spanners), func(i, k int) { s.Spanners[i], s.Spanners[k] = s.Spanners[k], s.Spanners[i] })
	}
	join(&s, 1, 7, 12)
	for range 50 {
		if Valid(s) {
			t.Fatal("slurs that cross are valid in some order")
		}
		r.Shuffle(len(s.Spanners), func(i, k int) { s.Spanners[i], s.Spanners[k] = s.Spanners[k], s.Spanners[i] })
	}
}
