package spanner

import (
	"math"
	"math/rand"
	"slices"
	"testing"

	"hemiola/api"
)

// sp is a span of a kind in the first voice of the first staff, from a tick of a measure to another one.
func sp(kind, fromMeasure, fromAt, toMeasure, toAt int) Span {
	return Span{Kind: kind, From: Place{Measure: fromMeasure, At: fromAt}, To: Place{Measure: toMeasure, At: toAt}}
}

// in is a span moved to a staff and a voice.
func in(s Span, staff, voice int) Span {
	s.From.Staff, s.From.Voice, s.To.Staff, s.To.Voice = staff, voice, staff, voice
	return s
}

// extreme are numbers that could overflow.
var extreme = []int{math.MinInt, math.MinInt + 1, -1 << 32, -1, 0, 1, 1 << 32, math.MaxInt - 1, math.MaxInt}

// allKinds are the kinds, and numbers that are none.
var allKinds = []int{math.MinInt, -1, 0, 1, 2, 3, 4, 5, 6, 7, 8, 9, math.MaxInt}

// P14.1
func TestCompare(t *testing.T) {
	for _, c := range []struct {
		a, b Place
		want int
	}{
		{Place{}, Place{}, 0},
		{Place{Measure: 1}, Place{Measure: 2}, -1},
		{Place{Measure: 1, At: 5}, Place{Measure: 1, At: 4}, 1},
		{Place{Measure: 1, At: 5}, Place{Measure: 2, At: 4}, -1},
		{Place{Measure: 3, At: 7, Staff: 1, Voice: 1}, Place{Measure: 3, At: 7, Staff: 2}, 0},
		{Place{Measure: 3, At: 6, Staff: 9, Voice: 1}, Place{Measure: 3, At: 7}, -1},
		{Place{Measure: math.MinInt}, Place{Measure: math.MaxInt}, -1},
		{Place{At: math.MinInt}, Place{At: math.MaxInt}, -1},
	} {
		if n := Compare(c.a, c.b); n != c.want {
			t.Errorf("Compare(%v, %v) = %d; want %d", c.a, c.b, n, c.want)
		}
		if n := Compare(c.b, c.a); n != -c.want {
			t.Errorf("Compare(%v, %v) = %d; want %d", c.b, c.a, n, -c.want)
		}
	}
	r := rand.New(rand.NewSource(1))
	for range 20000 {
		a, b := anyPlace(r), anyPlace(r)
		want := 0
		if precedes(a, b) {
			want = -1
		} else if precedes(b, a) {
			want = 1
		}
		if n := Compare(a, b); n != want {
			t.Fatalf("Compare(%v, %v) = %d; want %d", a, b, n, want)
		}
	}
}

// precedes is the order of places in the chapter's words.
func precedes(a, b Place) bool {
	if a.Measure == b.Measure {
		return a.At < b.At
	}
	return a.Measure < b.Measure
}

// anyPlace is a place near others, and seldom far away.
func anyPlace(r *rand.Rand) Place {
	p := Place{Measure: r.Intn(4), At: r.Intn(3), Staff: r.Intn(2), Voice: r.Intn(2)}
	if r.Intn(40) == 0 {
		*[]*int{&p.Measure, &p.At, &p.Staff, &p.Voice}[r.Intn(4)] = extreme[r.Intn(len(extreme))]
	}
	return p
}

// anySpan is a span that may be improper in any way.
func anySpan(r *rand.Rand) Span {
	s := Span{Kind: r.Intn(8), From: anyPlace(r), To: anyPlace(r)}
	if r.Intn(2) == 0 {
		s.To.Staff, s.To.Voice = s.From.Staff, s.From.Voice
	}
	if r.Intn(4) > 0 && precedes(s.To, s.From) {
		s.From, s.To = s.To, s.From
	}
	if r.Intn(20) == 0 {
		s.Kind = allKinds[r.Intn(len(allKinds))]
	}
	return s
}

// defect is one thing that is wrong with a span.
type defect struct {
	name   string
	e      api.Errno
	change func(s *Span)
}

// defects are what may be wrong with a span, in the order of the errors.
func defects() []defect {
	var l []defect
	for _, kind := range []int{math.MinInt, -1, 0, 8, math.MaxInt} {
		l = append(l, defect{"kind", api.ErrKind, func(s *Span) { s.Kind = kind }})
	}
	fields := []func(p *Place) *int{
		func(p *Place) *int { return &p.Measure },
		func(p *Place) *int { return &p.At },
		func(p *Place) *int { return &p.Staff },
		func(p *Place) *int { return &p.Voice },
	}
	limits := [4]int{1023, 1 << 42, 127, 1}
	for i, field := range fields {
		for _, n := range []int{math.MinInt, -1, limits[i] + 1, math.MaxInt} {
			l = append(l,
				defect{"range", api.ErrRange, func(s *Span) { *field(&s.From) = n }},
				defect{"range", api.ErrRange, func(s *Span) { *field(&s.To) = n }})
		}
	}
	return append(l,
		defect{"staff", api.ErrSpanner, func(s *Span) { s.To.Staff = s.From.Staff ^ 1 }},
		defect{"voice", api.ErrSpanner, func(s *Span) { s.To.Voice = s.From.Voice ^ 1 }},
		defect{"same place", api.ErrOrder, func(s *Span) { s.To.Measure, s.To.At = s.From.Measure, s.From.At }},
		defect{"turned", api.ErrOrder, func(s *Span) { s.From.Measure, s.To.Measure = s.To.Measure, s.From.Measure }},
	)
}

// P14.1
func TestProper(t *testing.T) {
	for kind := 1; kind <= 7; kind++ {
		for _, s := range []Span{sp(kind, 0, 0, 0, 1), sp(kind, 0, 0, 1023, 1<<42), in(sp(kind, 1, 7, 2, 0), 127, 1), in(sp(kind, 1022, 1<<42, 1023, 0), 64, 1)} {
			if e := Proper(s); e != api.OK {
				t.Errorf("Proper(%v) = %d", s, e)
			}
		}
		ofVoice := kind == 1 || kind == 7
		for i, d := range defects() {
			s := in(sp(kind, 2, 5, 4, 3), 6, 1)
			d.change(&s)
			want := d.e
			if d.name == "voice" && !ofVoice {
				want = api.OK
			}
			if e := Proper(s); e != want {
				t.Errorf("Proper(%v) = %d; want %d", s, e, want)
			}
			for _, later := range defects()[i+1:] {
				s := in(sp(kind, 2, 5, 4, 3), 6, 1)
				later.change(&s)
				d.change(&s)
				want := d.e
				switch {
				case d.name == later.name && d.name == "range":
					want = api.ErrRange
				case d.name == "voice" && !ofVoice:
					want = later.e
				}
				if e := Proper(s); e != want {
					t.Errorf("Proper(%v) = %d; want %d (%s before %s)", s, e, want, d.name, later.name)
				}
			}
		}
	}
	if MaxStaff != 127 {
		t.Error(MaxStaff)
	}
}

// P14.2: how two spans of the same group, of which the first one is from 2 to 5, exclude one another.
func TestConflict(t *testing.T) {
	const slur, hairpin, line = 1, 2, 4
	for _, c := range []struct {
		from, to int
		excludes int // the sum of the rules by which they do
	}{
		{0, 1, 0}, {6, 8, 0}, {0, 2, line}, {5, 6, line}, {5, 9, line},
		{1, 3, slur + hairpin + line}, {4, 7, slur + hairpin + line}, {2, 5, slur + hairpin + line},
		{3, 4, hairpin + line}, {2, 4, hairpin + line}, {3, 5, hairpin + line}, {1, 6, hairpin + line}, {2, 6, hairpin + line}, {1, 5, hairpin + line},
	} {
		for kinds, rule := range map[[2]int]int{{1, 1}: slur, {2, 2}: hairpin, {3, 3}: hairpin, {2, 3}: hairpin, {4, 4}: line, {5, 5}: line, {4, 5}: line, {6, 6}: hairpin, {7, 7}: line} {
			for _, places := range [][4]int{{0, 2, 0, 5}, {2, 0, 5, 0}} {
				a := sp(kinds[0], places[0], places[1], places[2], places[3])
				b := sp(kinds[1], 0, c.from, 0, c.to)
				if places[0] == 2 {
					b = sp(kinds[1], c.from, 0, c.to, 0)
				}
				want := c.excludes&rule != 0
				if Conflict(a, b) != want || Conflict(b, a) != want {
					t.Errorf("Conflict(%v, %v) = %t, %t; want %t", a, b, Conflict(a, b), Conflict(b, a), want)
				}
			}
		}
	}
}

// P14.2: which spans are of the same group.
func TestConflictGroups(t *testing.T) {
	for _, k := range allKinds {
		for _, n := range allKinds {
			a, b := sp(k, 0, 0, 2, 0), sp(n, 1, 0, 3, 0)
			group := k == n && k >= 1 && k <= 7 || k+n == 5 && k*n == 6 || k+n == 9 && k*n == 20
			if Conflict(a, b) != group {
				t.Errorf("Conflict of the kinds %d and %d = %t", k, n, !group)
			}
			if Conflict(in(a, 1, 0), in(b, 2, 0)) {
				t.Errorf("the kinds %d and %d exclude one another in different staves", k, n)
			}
			voices := group && k != 1 && k != 7
			if Conflict(in(a, 3, 0), in(b, 3, 1)) != voices {
				t.Errorf("the kinds %d and %d in different voices: %t", k, n, !voices)
			}
		}
	}
	// staff and voice are those of From
	a, b := sp(api.Slur, 0, 0, 2, 0), sp(api.Slur, 1, 0, 3, 0)
	a.To.Staff, b.To.Voice = 5, 1
	if !Conflict(a, b) || !Conflict(b, a) {
		t.Error("the staff and the voice of To matter")
	}
	a.From.Staff, a.To.Staff = 5, 0
	if Conflict(a, b) || Conflict(b, a) {
		t.Error("the staff of From does not matter")
	}
}

// points returns the points of a proper span within places of at most 4 measures with 3 ticks, and the points between neighbouring places.
func points(s Span) map[int]bool {
	set := map[int]bool{}
	for n := 2 * (3*s.From.Measure + s.From.At); n <= 2*(3*s.To.Measure+s.To.At); n++ {
		set[n] = true
	}
	return set
}

// excludes is Conflict of proper spans, by their points.
func excludes(a, b Span) bool {
	group := [8]int{0, 1, 2, 2, 4, 4, 6, 7}
	ofVoice := a.Kind == 1 || a.Kind == 7
	if group[a.Kind] != group[b.Kind] || a.From.Staff != b.From.Staff || ofVoice && a.From.Voice != b.From.Voice {
		return false
	}
	p, q := points(a), points(b)
	common, between := 0, 0
	for n := range p {
		if q[n] {
			common++
			between += n % 2
		}
	}
	switch group[a.Kind] {
	case 1:
		nested := common == len(p) || common == len(q)
		return between > 0 && (!nested || len(p) == len(q))
	case 2, 6:
		return between > 0
	}
	return common > 0
}

// literal is Conflict in the words of the chapter.
func literal(a, b Span) bool {
	follows := func(p, q Place) bool { return precedes(q, p) }
	apart := !follows(a.To, b.From) || !follows(b.To, a.From)
	strictly := precedes(a.To, b.From) || precedes(b.To, a.From)
	lies := func(a, b Span) bool { return !precedes(a.From, b.From) && !follows(a.To, b.To) }
	staff := a.From.Staff == b.From.Staff
	voice := staff && a.From.Voice == b.From.Voice
	both := func(k, n int) bool { return (a.Kind == k || a.Kind == n) && (b.Kind == k || b.Kind == n) }
	switch {
	case both(1, 1) && voice:
		return !apart && (!lies(a, b) && !lies(b, a) || lies(a, b) && lies(b, a))
	case (both(2, 3) || both(6, 6)) && staff:
		return !apart
	case both(4, 5) && staff || both(7, 7) && voice:
		return !strictly
	}
	return false
}

// properSpan is a proper span near others.
func properSpan(r *rand.Rand) Span {
	for {
		s := Span{Kind: 1 + r.Intn(7)}
		s.From = Place{r.Intn(4), r.Intn(3), r.Intn(2), r.Intn(2)}
		s.To = Place{r.Intn(4), r.Intn(3), s.From.Staff, s.From.Voice}
		if s.Kind != 1 && s.Kind != 7 {
			s.To.Voice = r.Intn(2)
		}
		if precedes(s.From, s.To) {
			return s
		}
	}
}

// P14.2, P14.7
func TestConflictModels(t *testing.T) {
	r := rand.New(rand.NewSource(2))
	count := map[bool]int{}
	for range 100000 {
		a, b := properSpan(r), properSpan(r)
		if r.Intn(2) == 0 {
			b.Kind = a.Kind
		}
		want := excludes(a, b)
		if Conflict(a, b) != want || Conflict(b, a) != want {
			t.Fatalf("Conflict(%v, %v) = %t, %t; want %t", a, b, Conflict(a, b), Conflict(b, a), want)
		}
		count[want]++
		a, b = anySpan(r), anySpan(r)
		want = literal(a, b)
		if Conflict(a, b) != want || Conflict(b, a) != want {
			t.Fatalf("Conflict(%v, %v) = %t, %t; want %t", a, b, Conflict(a, b), Conflict(b, a), want)
		}
		count[want]++
	}
	if count[true] < 5000 || count[false] < 5000 {
		t.Error(count)
	}
}

// firstError is Check by its definition, for lists that are not too long.
func firstError(l []Span) (int, api.Errno) {
	for i, s := range l {
		if e := Proper(s); e != api.OK {
			return i, e
		}
		for _, earlier := range l[:i] {
			if literal(s, earlier) {
				return i, api.ErrOverlap
			}
		}
	}
	return -1, api.OK
}

// P14.2
func TestCheck(t *testing.T) {
	turned := sp(api.Slur, 3, 0, 2, 0)
	for _, c := range []struct {
		l     []Span
		index int
		e     api.Errno
	}{
		{nil, -1, api.OK},
		{[]Span{}, -1, api.OK},
		{[]Span{sp(1, 0, 0, 2, 0), sp(1, 2, 0, 3, 0)}, -1, api.OK},
		{[]Span{sp(1, 0, 0, 2, 0), sp(1, 2, 0, 3, 0), sp(1, 1, 0, 3, 0)}, 2, api.ErrOverlap},
		{[]Span{sp(1, 1, 0, 3, 0), sp(1, 0, 0, 2, 0), turned}, 1, api.ErrOverlap},
		{[]Span{sp(1, 0, 0, 2, 0), turned, sp(1, 1, 0, 3, 0)}, 1, api.ErrOrder},
		{[]Span{sp(1, 0, 0, 2, 0), {Kind: 8}, sp(1, 1, 0, 3, 0)}, 1, api.ErrKind},
		{[]Span{{}}, 0, api.ErrKind},
		{[]Span{sp(4, 0, 0, 2, 0), sp(5, 2, 0, 3, 0)}, 1, api.ErrOverlap},
		{[]Span{sp(2, 0, 0, 2, 0), sp(3, 2, 0, 3, 0), sp(6, 0, 0, 3, 0), sp(1, 1, 0, 3, 0), sp(7, 0, 0, 3, 0)}, -1, api.OK},
		{[]Span{sp(1, 0, 0, 0, 1), sp(1, 0, 0, 0, 1)}, 1, api.ErrOverlap},
		// one that is not proper and would exclude an earlier one
		{[]Span{sp(6, 0, 0, 2, 0), in(sp(6, 1, 0, 3, 0), 0, 2)}, 1, api.ErrRange},
	} {
		before := slices.Clone(c.l)
		if i, e := Check(c.l); i != c.index || e != c.e {
			t.Errorf("Check(%v) = %d, %d; want %d, %d", c.l, i, e, c.index, c.e)
		}
		if !slices.Equal(before, c.l) {
			t.Errorf("Check has changed %v", before)
		}
	}
}

// P14.2
func TestCheckLimit(t *testing.T) {
	var l []Span
	for i := range 4096 {
		l = append(l, sp(api.Slur, 0, i, 0, i+1))
	}
	if i, e := Check(l); i != -1 || e != api.OK {
		t.Errorf("Check of 4096 spans = %d, %d", i, e)
	}
	l[4095] = l[0]
	if i, e := Check(l); i != 4095 || e != api.ErrOverlap {
		t.Errorf("Check of 4096 spans with the same ones = %d, %d", i, e)
	}
	for _, last := range []Span{sp(api.Slur, 5, 0, 6, 0), {}} {
		l[0] = last
		if i, e := Check(append(l, last)); i != 4096 || e != api.ErrLimit {
			t.Errorf("Check of 4097 spans = %d, %d", i, e)
		}
	}
	if i, e := Check(make([]Span, 100000)); i != 4096 || e != api.ErrLimit {
		t.Errorf("Check of 100000 spans = %d, %d", i, e)
	}
}

// P14.2, P14.7: random lists, also in another order.
func TestCheckModel(t *testing.T) {
	r := rand.New(rand.NewSource(3))
	count := map[api.Errno]int{}
	for range 20000 {
		var l []Span
		for range r.Intn(9) {
			l = append(l, properSpan(r))
		}
		if r.Intn(4) == 0 {
			l = append(l, anySpan(r))
		}
		r.Shuffle(len(l), func(i, k int) { l[i], l[k] = l[k], l[i] })
		i, e := Check(l)
		if n, f := firstError(l); i != n || e != f {
			t.Fatalf("Check(%v) = %d, %d; want %d, %d", l, i, e, n, f)
		}
		count[e]++
		if e == api.OK {
			accepted(t, l)
		}
		r.Shuffle(len(l), func(i, k int) { l[i], l[k] = l[k], l[i] })
		if _, f := Check(l); (e == api.OK) != (f == api.OK) {
			t.Fatalf("Check(%v) = %d, %d in another order", l, e, f)
		}
	}
	if count[api.OK] < 1000 || count[api.ErrOverlap] < 1000 || count[api.ErrRange] < 20 || count[api.ErrOrder] < 100 {
		t.Error(count)
	}
}

// accepted checks what follows for a list that Check accepts.
func accepted(t *testing.T, l []Span) {
	lies := func(a, b Span) bool { return !precedes(a.From, b.From) && !precedes(b.To, a.To) }
	for i, a := range l {
		for _, b := range l[:i] {
			same := a.Kind == 1 && b.Kind == 1 && a.From.Staff == b.From.Staff && a.From.Voice == b.From.Voice
			common := precedes(a.From, b.To) && precedes(b.From, a.To)
			if same && common && lies(a, b) == lies(b, a) {
				t.Fatalf("%v and %v are accepted", a, b)
			}
		}
	}
	for n := range 24 {
		p := Place{Measure: n / 6, At: n / 2 % 3, Staff: n % 2}
		if k := len(Covering(l, api.OctaveUp, p)) + len(Covering(l, api.OctaveDown, p)); k > 1 {
			t.Fatalf("%d octave lines of %v cover %v", k, l, p)
		}
	}
}
