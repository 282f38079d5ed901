package measure

import (
	"math"
	"reflect"
	"slices"
	"strconv"
	"strings"
	"testing"

	"hemiola/api"
	"hemiola/clef"
	"hemiola/duration"
	"hemiola/metre"
	"hemiola/pitch"
	"hemiola/voice"
)

const (
	whole   = 1935360
	half    = whole / 2
	quarter = whole / 4
	eighth  = whole / 8
	finest  = 7560
	longest = 8 * whole
)

// sign is the metre with a text.
func sign(text string) api.Metre {
	m, e := metre.Parse(text)
	if e != api.OK {
		panic(text)
	}
	return m
}

// read reads a measure: its time signature, its length (0 in most cases) and its cells, which are divided by "|", and their voices by ";".
func read(signature string, length int, text string) api.Measure {
	m := api.Measure{Metre: sign(signature), Length: length}
	for cell := range strings.SplitSeq(text, "|") {
		var c api.Cell
		for v := range strings.SplitSeq(cell, ";") {
			c.Voices = append(c.Voices, readVoice(v))
		}
		m.Cells = append(m.Cells, c)
	}
	return m
}

// readVoice reads events like "C4+E4~:8.@7" (heads, which may be tied, value, and the number of the id), "r:4", "s:4" and "m", and tuplets like "3/2( .. )".
func readVoice(text string) api.Voice {
	var v api.Voice
	var open []int
	for _, word := range strings.Fields(text) {
		switch {
		case word == ")":
			t := &v.Tuplets[open[len(open)-1]]
			t.Count = len(v.Events) - t.First
			open = open[:len(open)-1]
		case strings.HasSuffix(word, "("):
			actual, normal, _ := strings.Cut(strings.TrimSuffix(word, "("), "/")
			open = append(open, len(v.Tuplets))
			v.Tuplets = append(v.Tuplets, api.Tuplet{First: len(v.Events), Actual: number(actual), Normal: number(normal)})
		default:
			v.Events = append(v.Events, readEvent(word))
		}
	}
	return v
}

func number(s string) int {
	n, e := strconv.Atoi(s)
	if e != nil {
		panic(s)
	}
	return n
}

func readEvent(word string) api.Event {
	var x api.Event
	word, id, named := strings.Cut(word, "@")
	if named {
		x.ID.Number = number(id)
	}
	name, value, _ := strings.Cut(word, ":")
	if name != "m" {
		v, e := duration.Parse(value)
		if e != api.OK {
			panic(word)
		}
		x.Value = v
	}
	x.Kind = map[string]int{"m": api.MeasureRest, "r": api.Rest, "s": api.Skip}[name]
	if x.Kind != 0 {
		return x
	}
	x.Kind = api.Chord
	for head := range strings.SplitSeq(name, "+") {
		p, _, e := pitch.Parse(strings.TrimSuffix(head, "~"))
		if e != api.OK {
			panic(word)
		}
		x.Heads = append(x.Heads, api.Head{Pitch: p, Tied: strings.HasSuffix(head, "~")})
	}
	return x
}

// bare replaces empty lists, at any depth, by nil, so that measures can be compared with reflect.DeepEqual.
func bare[T any](x T) T {
	v := reflect.New(reflect.TypeOf(x)).Elem()
	v.Set(bared(reflect.ValueOf(x)))
	return v.Interface().(T)
}

func bared(v reflect.Value) reflect.Value {
	n := reflect.New(v.Type()).Elem()
	n.Set(v)
	switch {
	case v.Kind() == reflect.Slice && v.Len() == 0:
		n.SetZero()
	case v.Kind() == reflect.Slice:
		n.Set(reflect.MakeSlice(v.Type(), v.Len(), v.Len()))
		for i := range v.Len() {
			n.Index(i).Set(bared(v.Index(i)))
		}
	case v.Kind() == reflect.Struct:
		for i := range v.NumField() {
			n.Field(i).Set(bared(v.Field(i)))
		}
	}
	return n
}

// same compares without the functions of the packages.
func same[T any](a, b T) bool { return reflect.DeepEqual(bare(a), bare(b)) }

// blocks collects the memory of the slices of a value: its first byte, and the first one after it.
func blocks(v reflect.Value, l *[][2]uintptr) {
	switch v.Kind() {
	case reflect.Slice:
		if v.Len() > 0 {
			*l = append(*l, [2]uintptr{v.Pointer(), v.Pointer() + uintptr(v.Len())*v.Type().Elem().Size()})
		}
		for i := range v.Len() {
			blocks(v.Index(i), l)
		}
	case reflect.Struct:
		for i := range v.NumField() {
			blocks(v.Field(i), l)
		}
	}
}

// fresh checks that the slices of a result share no memory with one another or with arguments.
func fresh(t *testing.T, name string, result any, arguments ...any) {
	t.Helper()
	var own, other [][2]uintptr
	blocks(reflect.ValueOf(result), &own)
	for _, a := range arguments {
		blocks(reflect.ValueOf(a), &other)
	}
	for i, a := range own {
		for _, b := range slices.Concat(own[:i], other) {
			if a[0] < b[1] && b[0] < a[1] {
				t.Errorf("the result of %s shares memory", name)
				return
			}
		}
	}
}

// P13.1
func TestLength(t *testing.T) {
	groups := func(l ...int) api.Metre {
		m := api.Metre{Count: 4, Unit: 4}
		copy(m.Groups[:], l)
		return m
	}
	four := api.Metre{Count: 4, Unit: 4}
	many := api.Metre{Count: 64, Unit: 1}
	for _, c := range []struct {
		metre  api.Metre
		length int
		want   voice.Place
		e      api.Errno
	}{
		{four, 0, voice.Place{Length: whole}, api.OK},
		{four, whole, voice.Place{Length: whole}, api.OK},
		{four, quarter, voice.Place{Offset: 3 * quarter, Length: quarter}, api.OK},
		{four, finest, voice.Place{Offset: whole - finest, Length: finest}, api.OK},
		{four, 5 * quarter, voice.Place{Length: 5 * quarter}, api.OK},
		{four, longest, voice.Place{Length: longest}, api.OK},
		{sign("2+2+3/8"), 0, voice.Place{Length: 7 * eighth}, api.OK},
		{sign("2+2+3/8"), eighth, voice.Place{Offset: 6 * eighth, Length: eighth}, api.OK},
		{sign("1/64"), 0, voice.Place{Length: whole / 64}, api.OK},
		{sign("8/1"), 0, voice.Place{Length: longest}, api.OK},
		{many, longest, voice.Place{Offset: 56 * whole, Length: longest}, api.OK},
		{many, finest, voice.Place{Offset: 64*whole - finest, Length: finest}, api.OK},
		{many, 0, voice.Place{}, api.ErrLong}, {sign("9/1"), 0, voice.Place{}, api.ErrLong}, {sign("64/4"), 0, voice.Place{}, api.ErrLong}, {sign("64/8"), 0, voice.Place{Length: longest}, api.OK},
		{four, -1, voice.Place{}, api.ErrRange}, {four, -finest, voice.Place{}, api.ErrRange}, {four, math.MinInt, voice.Place{}, api.ErrRange},
		{four, 1, voice.Place{}, api.ErrTick}, {four, finest - 1, voice.Place{}, api.ErrTick}, {four, finest + 1, voice.Place{}, api.ErrTick}, {four, longest + 1, voice.Place{}, api.ErrTick}, {four, math.MaxInt, voice.Place{}, api.ErrTick}, {four, whole - 945, voice.Place{}, api.ErrTick},
		{four, longest + finest, voice.Place{}, api.ErrLong}, {four, math.MaxInt - math.MaxInt%finest, voice.Place{}, api.ErrLong}, {many, 64 * whole, voice.Place{}, api.ErrLong},
		{api.Metre{Unit: 4}, -1, voice.Place{}, api.ErrRange}, {api.Metre{Count: 65, Unit: 4}, 1, voice.Place{}, api.ErrRange}, {api.Metre{Count: 4, Unit: 3}, -1, voice.Place{}, api.ErrValue}, {api.Metre{Count: 4, Unit: 128}, 1, voice.Place{}, api.ErrValue}, {groups(2, 3), -1, voice.Place{}, api.ErrMetre}, {groups(4), longest + finest, voice.Place{}, api.ErrMetre}, {groups(2, 2), 0, voice.Place{Length: whole}, api.OK}, {api.Metre{}, 0, voice.Place{}, api.ErrRange},
	} {
		m := api.Measure{Metre: c.metre, Length: c.length}
		if c.e == api.OK {
			c.want.Metre = c.metre
		}
		if n, e := Length(m); n != c.want.Length || e != c.e {
			t.Errorf("Length of %v, %d = %d, %d; want %d, %d", c.metre, c.length, n, e, c.want.Length, c.e)
		}
		if p, e := Place(m); p != c.want || e != c.e {
			t.Errorf("Place of %v, %d = %v, %d; want %v, %d", c.metre, c.length, p, e, c.want, c.e)
		}
	}
}

// defect is one thing that is wrong with a measure.
type defect struct {
	e      api.Errno
	change func(m *api.Measure)
}

// cellDefects are what may be wrong with a cell that has two clef changes and two voices, in the order of the errors.
func cellDefects(cell int) []defect {
	in := func(e api.Errno, change func(c *api.Cell)) defect {
		return defect{e, func(m *api.Measure) { change(&m.Cells[cell]) }}
	}
	v := func(c *api.Cell, i int) *api.Voice {
		c.Voices = slices.Concat(c.Voices, make([]api.Voice, 2))[:2]
		if len(c.Voices[i].Events) == 0 {
			c.Voices[i] = readVoice("r:2")
		}
		c.Voices[i].Events = slices.Clone(c.Voices[i].Events)
		return &c.Voices[i]
	}
	return []defect{
		in(api.ErrKind, func(c *api.Cell) { c.Clefs[0].Clef = 0 }),
		in(api.ErrKind, func(c *api.Cell) { c.Clefs[0].Clef = 10 }),
		in(api.ErrRange, func(c *api.Cell) { c.Clefs[0].At = -1 }),
		in(api.ErrRange, func(c *api.Cell) { c.Clefs[0].At = math.MaxInt }),
		in(api.ErrKind, func(c *api.Cell) { c.Clefs[1].Clef = -1 }),
		in(api.ErrRange, func(c *api.Cell) { c.Clefs[1].At = half }),
		in(api.ErrOrder, func(c *api.Cell) { c.Clefs[1].At = c.Clefs[0].At }),
		in(api.ErrOrder, func(c *api.Cell) { c.Clefs[1].At = c.Clefs[0].At - 1 }),
		in(api.ErrLimit, func(c *api.Cell) { c.Voices = slices.Concat(c.Voices, make([]api.Voice, 3))[:3] }),
		in(api.ErrState, func(c *api.Cell) { c.Voices = nil }),
		in(api.ErrState, func(c *api.Cell) { v(c, 0).Events = nil }),
		in(api.ErrState, func(c *api.Cell) { *v(c, 0) = api.Voice{Tuplets: []api.Tuplet{{Count: 1, Actual: 3, Normal: 2}}} }),
		in(api.ErrKind, func(c *api.Cell) { v(c, 0).Events[0].Kind = 9 }),
		in(api.ErrLength, func(c *api.Cell) { *v(c, 0) = readVoice("r:8") }),
		in(api.ErrRange, func(c *api.Cell) { v(c, 1).Events[0].ID.Site = 100 }),
		in(api.ErrKind, func(c *api.Cell) { *v(c, 1) = readVoice("r:4 m") }),
		in(api.ErrTuplet, func(c *api.Cell) { *v(c, 1) = readVoice("3/2( r:4 ) r:4") }),
		in(api.ErrLength, func(c *api.Cell) { *v(c, 1) = readVoice("r:1") }),
	}
}

// defects are what may be wrong with a measure of two cells, in the order of the errors.
func defects() []defect {
	long := api.Measure{Metre: sign("9/1")}
	l := []defect{
		{api.ErrRange, func(m *api.Measure) { m.Metre.Count = 0 }},
		{api.ErrValue, func(m *api.Measure) { m.Metre = api.Metre{Count: 2, Unit: 5} }},
		{api.ErrMetre, func(m *api.Measure) { m.Metre = api.Metre{Count: 2, Unit: 4, Groups: [6]int{2}} }},
		{api.ErrRange, func(m *api.Measure) { m.Metre, m.Length = sign("2/4"), -finest }},
		{api.ErrTick, func(m *api.Measure) { m.Metre, m.Length = sign("2/4"), 1 }},
		{api.ErrLong, func(m *api.Measure) { m.Metre, m.Length = sign("2/4"), longest+finest }},
		{api.ErrLong, func(m *api.Measure) { m.Metre, m.Length = long.Metre, 0 }},
		{api.ErrRange, func(m *api.Measure) { m.Fifths = 8 }},
		{api.ErrRange, func(m *api.Measure) { m.Fifths = math.MinInt }},
		{api.ErrLength, func(m *api.Measure) { m.Cells = append(slices.Clone(m.Cells), m.Cells[0]) }},
		{api.ErrLength, func(m *api.Measure) { m.Cells = m.Cells[:1] }},
		{api.ErrLength, func(m *api.Measure) { m.Cells = nil }},
	}
	return slices.Concat(l, cellDefects(0), cellDefects(1))
}

// sound is a valid measure of two staves.
func sound() api.Measure {
	m := read("2/4", 0, "C4:4 D4:4 ; r:2 | m ; 3/2( C4:8 D4:8 E4:8 ) r:4")
	for i := range m.Cells {
		m.Cells[i].Clefs = []api.ClefChange{{At: 5, Clef: clef.Bass}, {At: half - 1, Clef: clef.BassDown}}
	}
	m.Fifths = -7
	return m
}

// P13.2
func TestCheck(t *testing.T) {
	absent := sound()
	absent.Cells[0].Voices[1] = api.Voice{}
	absent.Cells[1].Voices[1] = api.Voice{Tuplets: []api.Tuplet{{First: -1}}}
	short := sound()
	short.Length, short.Fifths, short.Cells = eighth, 7, []api.Cell{{Voices: []api.Voice{readVoice("C4:8")}}}
	early := sound()
	early.Cells[0].Clefs = []api.ClefChange{{At: 0, Clef: clef.Treble}, {At: 1, Clef: clef.Treble}, {At: half - 1, Clef: clef.Bass}}
	bare := api.Measure{Metre: sign("4/4")}
	for i, c := range []struct {
		m      api.Measure
		staves int
		e      api.Errno
	}{
		{sound(), 2, api.OK}, {absent, 2, api.OK}, {early, 2, api.OK}, {short, 1, api.OK}, {bare, 0, api.OK},
		{sound(), 1, api.ErrLength}, {sound(), 3, api.ErrLength}, {sound(), 0, api.ErrLength}, {sound(), -2, api.ErrLength}, {bare, 1, api.ErrLength}, {bare, math.MinInt, api.ErrLength},
		{api.Measure{}, 0, api.ErrRange},
	} {
		if e := Check(c.m, c.staves); e != c.e {
			t.Errorf("Check of %d = %d; want %d", i, e, c.e)
		}
	}
	for i, d := range defects() {
		m := sound()
		d.change(&m)
		if e := Check(m, 2); e != d.e {
			t.Errorf("Check with the defect %d = %d; want %d", i, e, d.e)
		}
	}
}

// P13.2, P1: of two errors the one that is named first counts.
func TestCheckOrder(t *testing.T) {
	l := defects()
	for i, first := range l {
		for k, later := range l[i+1:] {
			m := sound()
			later.change(&m)
			if len(m.Cells) < 2 {
				m.Cells = sound().Cells
			}
			first.change(&m)
			if e := Check(m, 2); e != first.e {
				t.Errorf("Check with the defects %d and %d = %d; want %d", i, i+1+k, e, first.e)
			}
		}
	}
}

// P13.3
func TestSlots(t *testing.T) {
	const third = quarter / 3
	for _, c := range []struct {
		m       api.Measure
		slots   []Slot
		columns []int
		e       api.Errno
	}{
		{read("3/4", 0, "C4:2 D4:4 ; E4:2."), []Slot{{0, 0, 0, 0, 967680}, {0, 0, 1, 967680, 1451520}, {0, 1, 0, 0, 1451520}}, []int{0, 967680}, api.OK},
		{read("2/4", 0, "m | r:8 3/2( C4:8 D4:8 E4:8 ) s:8 ; m"), []Slot{{0, 0, 0, 0, half}, {1, 0, 0, 0, eighth}, {1, 0, 1, eighth, eighth + third}, {1, 0, 2, eighth + third, eighth + 2*third}, {1, 0, 3, eighth + 2*third, 3 * eighth}, {1, 0, 4, 3 * eighth, half}, {1, 1, 0, 0, half}}, []int{0, eighth, eighth + third, eighth + 2*third, 3 * eighth}, api.OK},
		{read("4/4", quarter, "C4:8 D4:8 | E4:16 F4:8."), []Slot{{0, 0, 0, 0, eighth}, {0, 0, 1, eighth, quarter}, {1, 0, 0, 0, eighth / 2}, {1, 0, 1, eighth / 2, quarter}}, []int{0, eighth / 2, eighth}, api.OK},
		{read("4/4", 0, "; r:1 ; m |"), []Slot{{0, 1, 0, 0, whole}, {0, 2, 0, 0, whole}}, []int{0}, api.OK},
		{api.Measure{Metre: sign("4/4")}, nil, nil, api.OK},
		{api.Measure{Metre: sign("4/4"), Cells: make([]api.Cell, 3)}, nil, nil, api.OK},
		{api.Measure{Metre: sign("4/4"), Cells: []api.Cell{{Voices: []api.Voice{{Tuplets: []api.Tuplet{{}}}}}}}, nil, nil, api.OK},
		{read("4/4", 1, "r:1"), nil, nil, api.ErrTick}, {read("9/1", 0, "m"), nil, nil, api.ErrLong}, {read("4/4", -1, "C4:4"), nil, nil, api.ErrRange}, {api.Measure{}, nil, nil, api.ErrRange},
		{read("4/4", 0, "r:1 | r:1 ; r:2"), nil, nil, api.ErrLength}, {read("4/4", 0, "r:1 | r:1 ; r:2 m ; r:4"), nil, nil, api.ErrKind}, {read("4/4", 0, "r:4 | r:2 m"), nil, nil, api.ErrLength}, {read("4/4", 0, "r:1 ; 3/2( r:4 ) | r:4"), nil, nil, api.ErrTuplet},
	} {
		before := bare(c.m)
		if l, e := Slots(c.m); !slices.Equal(l, c.slots) || e != c.e {
			t.Errorf("Slots(%v) = %v, %d; want %v, %d", c.m, l, e, c.slots, c.e)
		}
		if l, e := Columns(c.m); !slices.Equal(l, c.columns) || e != c.e {
			t.Errorf("Columns(%v) = %v, %d; want %v, %d", c.m, l, e, c.columns, c.e)
		}
		if !same(before, c.m) {
			t.Error("the argument was changed")
		}
	}
}

// P13.3
func TestAt(t *testing.T) {
	const third = quarter / 3
	m := read("2/4", 0, "C4:4 D4:4 ; r:2 | m ; ; r:8 3/2( C4:8 D4:8 E4:8 ) s:8 | C4:4 | r:4 m | ; | r:2")
	m.Cells[5].Voices[0].Tuplets = []api.Tuplet{{Count: 1, Actual: 3, Normal: 2}}
	long := m
	long.Length = longest + finest
	for _, c := range []struct {
		m                  api.Measure
		staff, voice, tick int
		want               Slot
		e                  api.Errno
	}{
		{m, 0, 0, 0, Slot{0, 0, 0, 0, quarter}, api.OK}, {m, 0, 0, quarter - 1, Slot{0, 0, 0, 0, quarter}, api.OK}, {m, 0, 0, quarter, Slot{0, 0, 1, quarter, half}, api.OK}, {m, 0, 0, half - 1, Slot{0, 0, 1, quarter, half}, api.OK}, {m, 0, 1, 5, Slot{0, 1, 0, 0, half}, api.OK},
		{m, 1, 0, half - 1, Slot{1, 0, 0, 0, half}, api.OK}, {m, 1, 2, quarter, Slot{1, 2, 2, eighth + third, eighth + 2*third}, api.OK}, {m, 1, 2, eighth + third, Slot{1, 2, 2, eighth + third, eighth + 2*third}, api.OK}, {m, 1, 2, eighth + third - 1, Slot{1, 2, 1, eighth, eighth + third}, api.OK},
		{m, 0, 0, half, Slot{}, api.ErrRange}, {m, 0, 0, -1, Slot{}, api.ErrRange}, {m, 1, 0, math.MaxInt, Slot{}, api.ErrRange}, {m, 1, 0, math.MinInt, Slot{}, api.ErrRange},
		{m, -1, 0, 0, Slot{}, api.ErrRange}, {m, 7, 0, 0, Slot{}, api.ErrRange}, {m, math.MaxInt, 0, 0, Slot{}, api.ErrRange}, {m, math.MinInt, 0, 0, Slot{}, api.ErrRange},
		{m, 0, -1, 0, Slot{}, api.ErrRange}, {m, 0, 2, 0, Slot{}, api.ErrRange}, {m, 0, math.MaxInt, 0, Slot{}, api.ErrRange}, {m, 0, math.MinInt, 0, Slot{}, api.ErrRange}, {m, 1, 1, 0, Slot{}, api.ErrRange}, {m, 4, 0, 0, Slot{}, api.ErrRange}, {m, 4, 1, 0, Slot{}, api.ErrRange}, {m, 5, 1, 0, Slot{}, api.ErrRange}, {m, 5, 0, 0, Slot{}, api.ErrTuplet},
		{m, 2, 0, 0, Slot{}, api.ErrLength}, {m, 2, 0, -1, Slot{}, api.ErrLength}, {m, 3, 0, 0, Slot{}, api.ErrKind}, {m, 3, 0, half, Slot{}, api.ErrKind},
		{long, 0, 0, 0, Slot{}, api.ErrLong}, {long, -1, 0, 0, Slot{}, api.ErrLong}, {long, 0, 0, -1, Slot{}, api.ErrLong}, {api.Measure{}, 0, 0, 0, Slot{}, api.ErrRange},
	} {
		if s, e := At(c.m, c.staff, c.voice, c.tick); s != c.want || e != c.e {
			t.Errorf("At(%d, %d, %d) = %v, %d; want %v, %d", c.staff, c.voice, c.tick, s, e, c.want, c.e)
		}
	}
}

// P13.3
func TestFind(t *testing.T) {
	m := read("2/4", 0, "C4:4@1 D4:4@2 ; r:2@3 | m@4 ; r:4@2 r:4 | r:8@5 r:8 r:4@5")
	m.ID = api.ID{Site: 0, Number: 9}
	m.Cells[2].Voices[0].Events[1].ID = api.ID{Site: 5}
	broken := read("2/4", 0, "C4:4@1 D4:4@2 | r:4@3")
	long := read("9/1", 0, "m@1")
	for _, c := range []struct {
		m     api.Measure
		id    api.ID
		want  Slot
		found bool
	}{
		{m, api.ID{Number: 1}, Slot{0, 0, 0, 0, quarter}, true}, {m, api.ID{Number: 2}, Slot{0, 0, 1, quarter, half}, true}, {m, api.ID{Number: 3}, Slot{0, 1, 0, 0, half}, true}, {m, api.ID{Number: 4}, Slot{1, 0, 0, 0, half}, true}, {m, api.ID{Number: 5}, Slot{2, 0, 0, 0, eighth}, true}, {m, api.ID{Site: 5}, Slot{2, 0, 1, eighth, quarter}, true},
		{m, api.ID{}, Slot{}, false}, {m, api.ID{Number: 9}, Slot{}, false}, {m, api.ID{Site: 1, Number: 1}, Slot{}, false}, {m, api.ID{Number: -1}, Slot{}, false}, {m, api.ID{Site: math.MinInt, Number: math.MaxInt}, Slot{}, false},
		{broken, api.ID{Number: 1}, Slot{}, false}, {broken, api.ID{Number: 3}, Slot{}, false}, {long, api.ID{Number: 1}, Slot{}, false}, {api.Measure{}, api.ID{Number: 1}, Slot{}, false},
	} {
		if s, found := Find(c.m, c.id); s != c.want || found != c.found {
			t.Errorf("Find(%v) = %v, %t; want %v, %t", c.id, s, found, c.want, c.found)
		}
	}
}

// P13.4
func TestClefAt(t *testing.T) {
	m := api.Measure{Cells: make([]api.Cell, 3)} // neither the metre nor the voices matter
	m.Cells[0].Clefs = []api.ClefChange{{At: 0, Clef: clef.Bass}, {At: quarter, Clef: clef.Tenor}, {At: half, Clef: clef.Alto}}
	m.Cells[1].Clefs = []api.ClefChange{{At: quarter, Clef: clef.TrebleDown}}
	for _, c := range []struct{ staff, before, tick, want int }{
		{0, clef.Treble, 0, clef.Bass}, {0, clef.Treble, quarter - 1, clef.Bass}, {0, clef.Treble, quarter, clef.Tenor}, {0, clef.Treble, half - 1, clef.Tenor}, {0, clef.Treble, half, clef.Alto}, {0, clef.Treble, math.MaxInt, clef.Alto}, {0, clef.Soprano, -1, clef.Soprano},
		{1, clef.Baritone, 0, clef.Baritone}, {1, clef.Baritone, quarter - 1, clef.Baritone}, {1, clef.Baritone, quarter, clef.TrebleDown}, {1, clef.BassDown, math.MinInt, clef.BassDown},
		{2, clef.Treble, 0, clef.Treble}, {2, clef.BassDown, whole, clef.BassDown},
	} {
		if n, e := ClefAt(m, c.staff, c.before, c.tick); n != c.want || e != api.OK {
			t.Errorf("ClefAt(%d, %d, %d) = %d, %d; want %d", c.staff, c.before, c.tick, n, e, c.want)
		}
	}
	for _, c := range []struct {
		staff, before int
		e             api.Errno
	}{
		{-1, clef.Treble, api.ErrRange}, {3, clef.Treble, api.ErrRange}, {3, 0, api.ErrRange}, {math.MinInt, 10, api.ErrRange}, {math.MaxInt, 1, api.ErrRange},
		{0, 0, api.ErrKind}, {0, 10, api.ErrKind}, {1, -1, api.ErrKind}, {2, math.MaxInt, api.ErrKind},
	} {
		if n, e := ClefAt(m, c.staff, c.before, half); n != 0 || e != c.e {
			t.Errorf("ClefAt(%d, %d) = %d, %d; want %d", c.staff, c.before, n, e, c.e)
		}
	}
}

// P13.5
func TestBlank(t *testing.T) {
	for _, c := range []struct {
		sign                   string
		length, fifths, staves int
		want                   int
	}{
		{"4/4", 0, 0, 1, 0}, {"4/4", whole, 3, 2, 0}, {"4/4", quarter, -7, 128, quarter}, {"3/4", whole, 7, 1, whole}, {"2+2+3/8", 7 * eighth, 0, 1, 0}, {"2+2+3/8", finest, 0, 1, finest}, {"64/1", longest, 0, 3, longest}, {"8/1", longest, 0, 3, 0},
	} {
		m, e := Blank(sign(c.sign), c.length, c.fifths, c.staves)
		want := read(c.sign, c.want, strings.TrimSuffix(strings.Repeat("m|", c.staves), "|"))
		want.Fifths = c.fifths
		if !same(m, want) || e != api.OK {
			t.Errorf("Blank(%s, %d, %d, %d) = %v, %d", c.sign, c.length, c.fifths, c.staves, m, e)
		}
		if e := Check(m, c.staves); e != api.OK {
			t.Errorf("Check of Blank(%s, %d, %d, %d) = %d", c.sign, c.length, c.fifths, c.staves, e)
		}
		fresh(t, "Blank", m)
	}
	four := sign("4/4")
	for _, c := range []struct {
		metre                  api.Metre
		length, fifths, staves int
		e                      api.Errno
	}{
		{api.Metre{Count: 0, Unit: 4}, 0, 0, 1, api.ErrRange}, {api.Metre{Count: 4, Unit: 3}, 0, 8, 0, api.ErrValue}, {api.Metre{Count: 4, Unit: 4, Groups: [6]int{3, 2}}, 0, 0, 0, api.ErrMetre},
		{four, -1, 0, 1, api.ErrRange}, {four, -finest, 0, 1, api.ErrRange}, {four, 1, 0, 1, api.ErrTick}, {four, whole + 1, 8, 0, api.ErrTick}, {four, longest + finest, -8, 0, api.ErrLong}, {sign("64/1"), 0, 0, 1, api.ErrLong}, {sign("64/1"), 64 * whole, 8, 1, api.ErrLong},
		{four, 0, 8, 1, api.ErrRange}, {four, 0, -8, 1, api.ErrRange}, {four, 0, math.MinInt, 1, api.ErrRange}, {four, 0, 0, 0, api.ErrRange}, {four, 0, 0, -1, api.ErrRange}, {four, 0, 0, 129, api.ErrRange}, {four, 0, 0, math.MaxInt, api.ErrRange}, {four, 0, 0, math.MinInt, api.ErrRange},
	} {
		if m, e := Blank(c.metre, c.length, c.fifths, c.staves); e != c.e || !same(m, api.Measure{}) {
			t.Errorf("Blank(%v, %d, %d, %d) = %v, %d; want %d", c.metre, c.length, c.fifths, c.staves, m, e, c.e)
		}
	}
}

// P13.6
func TestSetVoice(t *testing.T) {
	tuplets := api.Voice{Tuplets: []api.Tuplet{{Count: 1, Actual: 3, Normal: 2}}}
	triplet := readVoice("3/2( C4:8 D4:8 E4:8 ) r:4")
	for _, c := range []struct {
		cells        string
		staff, voice int
		v            api.Voice
		want         string
	}{
		{"m", 0, 0, readVoice("C4:2@3"), "C4:2@3"},
		{"m | m ; r:2", 1, 0, triplet, "m | 3/2( C4:8 D4:8 E4:8 ) r:4 ; r:2"},
		{"m | m ; r:2", 0, 1, readVoice("C4:4 D4:4"), "m ; C4:4 D4:4 | m ; r:2"},
		{"m | m ; r:2", 1, 1, readVoice("m@9"), "m | m ; m@9"},
		{"m | m ; r:2", 1, 1, api.Voice{}, "m | m"},
		{"m | m ; r:2", 1, 1, tuplets, "m | m"},
		{"m | m", 1, 1, api.Voice{}, "m | m"},
		// cells that are not valid
		{"m ; ; | r:2 ; ;", 0, 0, readVoice("r:2"), "r:2 | r:2 ; ;"},
		{"m ; ; r:2 ;", 0, 1, api.Voice{}, "m ; ; r:2"},
		{"; r:2", 0, 1, readVoice("m"), "; m"},
		{"C4:1 ; r:8 | m m", 0, 1, readVoice("m"), "C4:1 ; m | m m"},
	} {
		m := read("2/4", 0, c.cells)
		m.Rehearsal, m.Tempi, m.Cells[0].Clefs = "A", []api.TempoMark{{At: 3, Micros: 5}}, []api.ClefChange{{At: 1, Clef: 2}}
		want := read("2/4", 0, c.want)
		want.Rehearsal, want.Tempi, want.Cells[0].Clefs = m.Rehearsal, m.Tempi, m.Cells[0].Clefs
		before := bare(m)
		n, e := SetVoice(m, c.staff, c.voice, c.v)
		if !same(n, want) || e != api.OK {
			t.Errorf("SetVoice(%s, %d, %d, %v) = %v, %d; want %s", c.cells, c.staff, c.voice, c.v, n, e, c.want)
		}
		if !same(m, before) {
			t.Errorf("SetVoice(%s, %d, %d, %v) has changed its argument", c.cells, c.staff, c.voice, c.v)
		}
		fresh(t, "SetVoice", n, m, c.v)
	}
}

// P13.6
func TestSetVoiceAbsent(t *testing.T) {
	rest, gap := readVoice("m"), api.Voice{}
	tuplets := api.Voice{Tuplets: []api.Tuplet{{Count: 1, Actual: 3, Normal: 2}}}
	for i, c := range []struct {
		voices []api.Voice
		voice  int
		v      api.Voice
		want   []api.Voice
	}{
		{nil, 1, rest, []api.Voice{gap, rest}},
		{nil, 1, gap, nil},
		{[]api.Voice{gap, rest}, 1, gap, nil},
		{[]api.Voice{tuplets, rest}, 1, tuplets, nil},
		{[]api.Voice{tuplets}, 1, rest, []api.Voice{tuplets, rest}},
		{[]api.Voice{rest, tuplets, tuplets}, 0, rest, []api.Voice{rest}},
		{[]api.Voice{rest, rest, rest}, 1, tuplets, []api.Voice{rest, tuplets, rest}},
	} {
		m := api.Measure{Metre: sign("2/4"), Cells: []api.Cell{{Voices: c.voices}}}
		want := api.Measure{Metre: sign("2/4"), Cells: []api.Cell{{Voices: c.want}}}
		n, e := SetVoice(m, 0, c.voice, c.v)
		if !same(n, want) || e != api.OK {
			t.Errorf("SetVoice of %d = %v, %d; want %v", i, n, e, want)
		}
		fresh(t, "SetVoice", n, m, c.v)
	}
}

// P13.6
func TestSetVoiceErrors(t *testing.T) {
	tuplets := api.Voice{Tuplets: []api.Tuplet{{Count: 1, Actual: 3, Normal: 2}}}
	m := read("2/4", 0, "m | m")
	long := read("2/4", longest+finest, "m | m")
	rest, short, kind := readVoice("m"), readVoice("r:4"), readVoice("r:4 m")
	for _, c := range []struct {
		m            api.Measure
		staff, voice int
		v            api.Voice
		e            api.Errno
	}{
		{long, 0, 0, rest, api.ErrLong}, {long, 9, 9, short, api.ErrLong}, {read("2/4", 1, "m"), 0, 0, api.Voice{}, api.ErrTick}, {api.Measure{Metre: api.Metre{Count: 1, Unit: 3}}, 0, 0, rest, api.ErrValue},
		{m, -1, 0, rest, api.ErrRange}, {m, 2, 0, rest, api.ErrRange}, {m, math.MaxInt, 0, api.Voice{}, api.ErrRange}, {m, math.MinInt, 0, short, api.ErrRange},
		{m, 0, -1, rest, api.ErrRange}, {m, 0, 2, rest, api.ErrRange}, {m, 0, math.MaxInt, api.Voice{}, api.ErrRange}, {m, 0, math.MinInt, short, api.ErrRange},
		{m, 0, 0, api.Voice{}, api.ErrState}, {m, 1, 0, api.Voice{Events: []api.Event{}}, api.ErrState}, {m, 1, 0, tuplets, api.ErrState}, {m, 2, 0, tuplets, api.ErrRange},
		{m, 0, 0, short, api.ErrLength}, {m, 0, 1, short, api.ErrLength}, {m, 1, 1, kind, api.ErrKind}, {m, 1, 0, readVoice("r:1"), api.ErrLength}, {m, 0, 0, readVoice("3/2( r:2 )"), api.ErrTuplet}, {m, 0, 0, api.Voice{Events: make([]api.Event, 129)}, api.ErrLimit},
	} {
		if n, e := SetVoice(c.m, c.staff, c.voice, c.v); e != c.e || !same(n, api.Measure{}) {
			t.Errorf("SetVoice(%v, %d, %d, %v) = %v, %d; want %d", c.m, c.staff, c.voice, c.v, n, e, c.e)
		}
	}
}
