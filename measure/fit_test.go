package measure

import (
	"math"
	"slices"
	"strings"
	"testing"

	"hemiola/api"
	"hemiola/clef"
)

// P13.7
func TestFit(t *testing.T) {
	for _, c := range []struct {
		from   string
		length int
		cells  string
		to     string
		ticks  int
		want   int
		fitted string
		ends   int
	}{
		// the example of the chapter
		{"3/4", 0, "C4:2@1 D4:4@2 ; E4:2.@3", "2/4", 0, 0, "C4:2@1 ; E4~:2@3", half},
		{"3/4", 0, "C4:2@1 D4:4@2 ; E4:2.@3", "4/4", 0, 0, "C4:2@1 D4:4@2 r:4 ; E4:2.@3 r:4", whole},
		// the same length
		{"4/4", 0, "C4:2 D4:2 ; s:1 | m", "2/2", 0, 0, "C4:2 D4:2 ; s:1 | m", whole},
		{"4/4", 0, "C4:2 D4:2", "4/4", whole, 0, "C4:2 D4:2", whole},
		{"4/4", half, "C4:2", "2/4", half, 0, "C4:2", half},
		{"4/4", half, "C4:2", "2/4", 0, 0, "C4:2", half},
		{"4/4", 0, "C4:2 D4:2", "3/4", whole, whole, "C4:2 D4:2", whole},
		// measure rests stay, and so does what they have
		{"4/4", 0, "m@7 ; C4:1", "2/4", 0, 0, "m@7 ; C4~:2", half},
		{"4/4", 0, "m@7 | C4:1", "8/1", 0, 0, "m@7 | C4:1 r:b. r:1 r:b.", longest},
		// absent voices stay absent
		{"4/4", 0, "; C4:1 ;", "2/4", 0, 0, "; C4~:2 ;", half},
		{"2/4", 0, "; C4:2 ;", "3/4", 0, 0, "; C4:2 r:4 ;", 3 * quarter},
		// a pickup: it is cut in its old place, where a quarter note ends with the measure
		{"4/4", 3 * quarter, "C4:2.", "4/4", half, half, "C4~:4 C4~:4", half},
		{"3/4", 3 * quarter, "C4:2.", "4/4", half, half, "C4~:2", half},
		{"6/8", 5 * eighth, "C4:8 D4:2", "2/4", 0, 0, "C4:8 D4~:8 D4~:4", half},
		// what is appended is written as in the new place
		{"4/4", quarter, "C4:4", "4/4", half, half, "C4:4 r:4", half},
		{"4/4", eighth, "C4:8", "4/4", half, half, "C4:8 r:8 r:4", half},
		{"2/4", eighth, "C4:8", "4/4", 0, 0, "C4:8 r:8 r:4 r:2", whole},
		{"4/4", eighth, "C4:8", "6/8", 0, 0, "C4:8 r:4 r:4.", 3 * quarter},
		{"4/4", eighth, "C4:8", "3/4", 0, 0, "C4:8 r:8 r:2", 3 * quarter},
		{"3/4", 0, "C4:2.", "3/4", 3*quarter + eighth, 3*quarter + eighth, "C4:2. r:8", 3*quarter + eighth},
		// tuplets
		{"3/4", 0, "3/2( C4:8 D4:8 E4:8 ) r:2", "1/4", 0, 0, "3/2( C4:8 D4:8 E4:8 )", quarter},
		{"3/4", 0, "C4:4 3/2( C4:8 D4:8 E4:8 ) r:4", "1/4", 0, 0, "C4:4", quarter},
		{"1/4", 0, "3/2( C4:8 D4:8 E4:8 )", "3/4", 0, 0, "3/2( C4:8 D4:8 E4:8 ) r:2", 3 * quarter},
		// ties beyond the end stay
		{"2/4", 0, "C4:4 C4~:4", "3/4", 0, 0, "C4:4 C4~:4 r:4", 3 * quarter},
		{"2/4", 0, "C4~:4 C4:4", "1/4", 0, 0, "C4~:4", quarter},
		{"64/1", whole, "C4:1", "2/1", 0, 0, "C4:1 r:1", 2 * whole},
	} {
		m := read(c.from, c.length, c.cells)
		before := bare(m)
		want := read(c.to, c.want, c.fitted)
		n, e := Fit(m, sign(c.to), c.ticks)
		if !same(n, want) || e != api.OK {
			t.Errorf("Fit(%s, %d: %s; %s, %d) = %v, %d; want %s", c.from, c.length, c.cells, c.to, c.ticks, n, e, c.fitted)
		}
		if k, _ := Length(n); k != c.ends {
			t.Errorf("Fit(%s, %d: %s; %s, %d) has the length %d; want %d", c.from, c.length, c.cells, c.to, c.ticks, k, c.ends)
		}
		if !same(m, before) {
			t.Errorf("Fit of %s has changed its argument", c.cells)
		}
		fresh(t, "Fit", n, m)
	}
}

// P13.7: clef changes and tempo marks up to the new end, and all other fields, stay.
func TestFitMarks(t *testing.T) {
	m := read("4/4", 0, "m@1 | m@2 ; m")
	m.ID, m.Fifths, m.RepeatStart, m.RepeatEnd, m.Endings, m.Jump, m.Labels, m.Swing, m.Break, m.Rehearsal = api.ID{Site: 3, Number: 4}, -7, true, 2, 3, 4, 5, 60, 2, "B"
	tempi := []api.TempoMark{{At: 0, Micros: 500000}, {At: half - 1, Micros: 1, Ramp: true}, {At: half, Micros: 2}, {At: whole - 1, Micros: 3}, {At: whole, Micros: 4}, {At: math.MaxInt}, {At: math.MinInt}}
	clefs := []api.ClefChange{{At: -5, Clef: 99}, {At: half - 1, Clef: clef.Bass}, {At: half, Clef: clef.Alto}, {At: whole - 1, Clef: 0}, {At: whole, Clef: 1}, {At: 2 * whole, Clef: 1}}
	m.Tempi, m.Cells[0].Clefs, m.Cells[1].Clefs = tempi, clefs, clefs[3:]
	before := bare(m)
	for _, c := range []struct {
		sign                 string
		length               int
		tempi, first, second int
	}{{"2/4", 0, 2, 2, 0}, {"4/4", 0, 4, 4, 1}, {"3/4", whole, 4, 4, 1}, {"4/4", whole - finest, 3, 3, 0}, {"4/4", whole + finest, 5, 5, 2}, {"8/1", 0, 5, 6, 3}} {
		n, e := Fit(m, sign(c.sign), c.length)
		want := bare(m)
		want.Metre, want.Length = sign(c.sign), c.length
		if c.sign == "4/4" && c.length == whole {
			want.Length = 0
		}
		want.Tempi = append(slices.Clone(tempi[:c.tempi]), api.TempoMark{At: math.MinInt})
		want.Cells[0].Clefs, want.Cells[1].Clefs = clefs[:c.first], clefs[3:3+c.second]
		if !same(n, want) || e != api.OK {
			t.Errorf("Fit(%s, %d) = %v, %d; want %v", c.sign, c.length, n, e, want)
		}
		if !same(m, before) {
			t.Error("Fit has changed its argument")
		}
		fresh(t, "Fit", n, m)
	}
}

// P13.7
func TestFitErrors(t *testing.T) {
	four, two, five := sign("4/4"), sign("2/4"), sign("5/4")
	full := strings.Repeat("r:64 ", 128) // 2 whole notes
	for i, c := range []struct {
		m      api.Measure
		metre  api.Metre
		length int
		e      api.Errno
	}{
		// the lengths
		{api.Measure{}, api.Metre{Count: 4, Unit: 3}, 0, api.ErrRange},
		{read("4/4", 1, "r:4"), api.Metre{}, 0, api.ErrTick},
		{read("9/1", 0, "r:4"), two, -1, api.ErrLong},
		{read("4/4", -finest, "r:4"), api.Metre{Count: 4, Unit: 3}, 0, api.ErrRange},
		{read("4/4", 0, "r:4"), api.Metre{Count: 4, Unit: 3}, -1, api.ErrValue},
		{read("4/4", 0, "r:4"), api.Metre{Count: 4, Unit: 4, Groups: [6]int{4}}, -1, api.ErrMetre},
		{read("4/4", 0, "r:4"), two, -1, api.ErrRange}, {read("4/4", 0, "m"), two, math.MinInt, api.ErrRange},
		{read("4/4", 0, "r:4"), two, 1, api.ErrTick}, {read("4/4", 0, "m"), two, math.MaxInt, api.ErrTick}, {read("4/4", 0, "r:1"), two, half + 945, api.ErrTick},
		{read("4/4", 0, "r:4"), two, longest + finest, api.ErrLong}, {read("4/4", 0, "m"), sign("64/1"), 0, api.ErrLong}, {read("4/4", 0, "m"), sign("64/1"), 64 * whole, api.ErrLong},
		// voices that are cut
		{read("4/4", 0, "r:1 | r:2"), two, 0, api.ErrLength}, {read("4/4", 0, "r:1 ; r:1 m | r:2"), two, 0, api.ErrKind}, {read("4/4", 0, "r:2 | r:1 ; r:1 m"), two, 0, api.ErrLength},
		{read("4/4", 0, "r:4 3/2( C4:4 D4:4 E4:4 ) r:4"), two, 0, api.ErrFit},                      // within D4
		{read("4/4", 0, "r:4 3/2( C4:4 D4:8 E4:4 F4:8 ) r:4"), two, 0, api.ErrFit},                 // between D4 and E4
		{read("4/4", half+3*finest, "C4:256. D4:2 E4:256."), sign("1/4"), 0, api.ErrTick},          // D4 begins between 256th notes
		{read("4/4", half+3*finest, "C4:256. D4:2 E4:256."), four, finest, api.ErrTick},            // C4 ends between them
		{read("4/4", half+3*finest, "r:2 r:128. ; C4:256. D4:2 E4:256."), four, half, api.ErrTick}, // the second voice
		{read("64/1", longest, "C4:b C4:b C4:b C4:b"), sign("64/1"), whole, api.ErrRange},          // the Offset
		{read("64/1", longest, "m | C4:b C4:b C4:b C4:b"), four, 0, api.ErrRange},
		{read("2/4", half+126*finest, "C4:2 "+strings.Repeat("r:256 ", 126)), four, quarter, api.OK},
		{read("2/4", half+127*finest, "C4:2 "+strings.Repeat("r:256 ", 127)), four, quarter, api.ErrLimit}, // divided, it has 129 events
		// voices to which rests are appended
		{read("4/4", 0, "C4:2"), five, 0, api.ErrLength}, {read("4/4", 0, "r:1 | C4:1 ; m C4:1"), five, 0, api.ErrKind}, {read("4/4", 0, "r:1 | 3/2( C4:1 )"), five, 0, api.ErrTuplet}, {read("4/4", 0, "r:2 | C4:1 ; m C4:1"), five, 0, api.ErrLength},
		{read("4/4", 0, "C4:1 r:4"), five, 0, api.ErrLength}, // not even if it is as long as the new measure
		{read("2/1", 0, full), sign("5/2"), 0, api.ErrLimit}, {read("2/1", 0, full[len("r:64 r:64 "):]+"r:32"), sign("5/2"), 0, api.OK},
		// nothing is changed, and so nothing is looked at
		{read("4/4", 0, "C4:2 m ; r:4"), sign("2/2"), 0, api.OK}, {read("4/4", 0, "r:2"), four, whole, api.OK}, {read("2/1", 0, full+full), sign("4/2"), 0, api.OK},
	} {
		n, e := Fit(c.m, c.metre, c.length)
		if e != c.e || e != api.OK && !same(n, api.Measure{}) {
			t.Errorf("Fit of %d = %v, %d; want %d", i, n, e, c.e)
		}
	}
}
