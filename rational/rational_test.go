package rational

import (
	"math"
	"math/big"
	"regexp"
	"strings"
	"testing"

	"hemiola/api"
)

// of returns a fraction that must be representable.
func of(t *testing.T, num, den int) R {
	t.Helper()
	x, e := Of(num, den)
	if e != api.OK {
		t.Fatalf("Of(%d, %d): %d", num, den, e)
	}
	return x
}

// expect compares a result with a fraction that is given by its text.
func expect(t *testing.T, what string, x R, e api.Errno, text string, want api.Errno) {
	t.Helper()
	if want != api.OK {
		text = "0"
	}
	if x.Text() != text || e != want {
		t.Errorf("%s = %s, %d; want %s, %d", what, x.Text(), e, text, want)
	}
}

// extremes are numbers near the limits of fractions and of int.
var extremes = []int{math.MinInt, math.MinInt + 1, -2 * Max, -Max - 1, -Max, -Max + 1, -2, -1, 0, 1, 2, Max - 1, Max, Max + 1, 2 * Max, math.MaxInt - 1, math.MaxInt}

// few are fractions of all signs and sizes.
func few(t *testing.T) []R {
	var l []R
	for _, num := range []int{-Max, -Max + 1, -1000, -7, -3, -1, 0, 1, 2, 5, 9, 1000, Max - 1, Max} {
		for _, den := range []int{1, 2, 3, 4, 12, 997, Max - 1, Max} {
			l = append(l, of(t, num, den))
		}
	}
	return l
}

func exact(x R) *big.Rat { return big.NewRat(int64(x.Num()), int64(x.Den())) }

// checkExact compares a result with what big numbers say.
func checkExact(t *testing.T, what string, x R, e api.Errno, want *big.Rat) {
	t.Helper()
	most := big.NewInt(Max)
	if new(big.Int).Abs(want.Num()).Cmp(most) > 0 || want.Denom().Cmp(most) > 0 {
		if x != (R{}) || e != api.ErrOverflow {
			t.Errorf("%s = %s, %d; want an overflow", what, x.Text(), e)
		}
	} else if e != api.OK || exact(x).Cmp(want) != 0 || x.Den() < 1 || int64(x.Den()) != want.Denom().Int64() {
		t.Errorf("%s = %s, %d; want %s", what, x.Text(), e, want)
	}
}

// P1.1
func TestOf(t *testing.T) {
	for _, c := range []struct {
		num, den int
		text     string
		e        api.Errno
	}{
		{6, -4, "-3/2", api.OK},
		{-6, -4, "3/2", api.OK},
		{0, 7, "0", api.OK},
		{0, -7, "0", api.OK},
		{0, math.MinInt, "0", api.OK},
		{math.MinInt, math.MinInt, "1", api.OK},
		{math.MinInt, 1 << 62, "-2", api.OK},
		{1 << 62, math.MinInt, "-1/2", api.OK},
		{math.MinInt, -(1 << 33), "1073741824", api.OK},
		{math.MinInt, -1, "", api.ErrOverflow},
		{Max, 1, "1073741824", api.OK},
		{-Max, 1, "-1073741824", api.OK},
		{1, Max, "1/1073741824", api.OK},
		{2 * Max, 2, "1073741824", api.OK},
		{2, -2 * Max, "-1/1073741824", api.OK},
		{Max + 1, Max + 1, "1", api.OK},
		{Max + 1, 2, "", api.ErrOverflow},
		{-Max - 1, 1, "", api.ErrOverflow},
		{1, Max + 1, "", api.ErrOverflow},
		{1, 0, "", api.ErrDivide},
		{0, 0, "", api.ErrDivide},
		{math.MinInt, 0, "", api.ErrDivide},
	} {
		x, e := Of(c.num, c.den)
		expect(t, "Of", x, e, c.text, c.e)
	}
	for _, num := range extremes {
		for _, den := range extremes {
			if den == 0 {
				continue
			}
			x, e := Of(num, den)
			want := new(big.Rat).SetFrac(big.NewInt(int64(num)), big.NewInt(int64(den)))
			checkExact(t, "Of", x, e, want)
		}
	}
}

// P1.1
func TestInt(t *testing.T) {
	for _, n := range extremes {
		x, e := Int(n)
		checkExact(t, "Int", x, e, new(big.Rat).SetInt64(int64(n)))
	}
	if x := of(t, 10, -15); x.Num() != -2 || x.Den() != 3 {
		t.Error(x.Num(), x.Den())
	}
}

func TestZeroValue(t *testing.T) {
	var x R
	if x.Num() != 0 || x.Den() != 1 || x.Text() != "0" || x.Sign() != 0 || x != of(t, 0, -5) || x.Neg() != x {
		t.Error("the zero value is not 0")
	}
	if of(t, 2, 4) != of(t, -3, -6) || of(t, 1, 2) == of(t, 1, 3) || of(t, 1, 2) == of(t, 3, 2) {
		t.Error("values are equal exactly if fractions are")
	}
}

// P1.2
func TestArithmetic(t *testing.T) {
	l := few(t)
	for _, x := range l {
		for _, y := range l {
			a, b := exact(x), exact(y)
			z, e := x.Add(y)
			checkExact(t, "Add", z, e, new(big.Rat).Add(a, b))
			z, e = x.Sub(y)
			checkExact(t, "Sub", z, e, new(big.Rat).Sub(a, b))
			z, e = x.Mul(y)
			checkExact(t, "Mul", z, e, new(big.Rat).Mul(a, b))
			z, e = x.Div(y)
			if y.Num() == 0 {
				expect(t, "Div", z, e, "", api.ErrDivide)
			} else {
				checkExact(t, "Div", z, e, new(big.Rat).Quo(a, b))
			}
		}
		checkExact(t, "Neg", x.Neg(), api.OK, new(big.Rat).Neg(exact(x)))
	}
}

// P1.2
func TestSum(t *testing.T) {
	most := of(t, Max, 1)
	one := of(t, 1, 1)
	for _, c := range []struct {
		l    []R
		text string
		e    api.Errno
	}{
		{nil, "0", api.OK},
		{[]R{}, "0", api.OK},
		{[]R{most}, "1073741824", api.OK},
		{[]R{of(t, 1, 6), of(t, 1, 4), of(t, 1, 12)}, "1/2", api.OK},
		{[]R{most, one.Neg(), one}, "1073741824", api.OK},
		{[]R{most, one, one.Neg()}, "", api.ErrOverflow},
		{[]R{one, of(t, 1, Max), of(t, 1, Max-1)}, "", api.ErrOverflow},
	} {
		x, e := Sum(c.l)
		expect(t, "Sum", x, e, c.text, c.e)
	}
}

// P1.3
func TestCmp(t *testing.T) {
	l := few(t)
	l = append(l, of(t, Max-1, Max-2), of(t, Max-2, Max-1), of(t, 1, Max-2))
	for _, x := range l {
		for _, y := range l {
			if got, want := x.Cmp(y), exact(x).Cmp(exact(y)); got != want {
				t.Errorf("%s Cmp %s = %d", x.Text(), y.Text(), got)
			}
		}
		if x.Sign() != exact(x).Sign() {
			t.Errorf("Sign of %s = %d", x.Text(), x.Sign())
		}
	}
}

// P1.4
func TestRounding(t *testing.T) {
	for _, c := range []struct{ num, den, floor, ceil, round int }{
		{0, 1, 0, 0, 0},
		{7, 1, 7, 7, 7},
		{-7, 1, -7, -7, -7},
		{-3, 2, -2, -1, -1},
		{3, 2, 1, 2, 2},
		{1, 2, 0, 1, 1},
		{-1, 2, -1, 0, 0},
		{4, 3, 1, 2, 1},
		{5, 3, 1, 2, 2},
		{-4, 3, -2, -1, -1},
		{-5, 3, -2, -1, -2},
		{1, Max, 0, 1, 0},
		{-1, Max, -1, 0, 0},
		{Max - 1, Max, 0, 1, 1},
		{Max, 1, Max, Max, Max},
		{-Max, 1, -Max, -Max, -Max},
		{Max - 1, 2, Max/2 - 1, Max / 2, Max / 2},
	} {
		x := of(t, c.num, c.den)
		if x.Floor() != c.floor || x.Ceil() != c.ceil || x.Round() != c.round {
			t.Errorf("%s: %d %d %d", x.Text(), x.Floor(), x.Ceil(), x.Round())
		}
	}
}

// nearest tries all denominators in increasing order, and the lesser numerator first.
func nearest(x R, most int) *big.Rat {
	var best, distance *big.Rat
	for den := 1; den <= most; den++ {
		low := int(math.Floor(float64(x.Num()) * float64(den) / float64(x.Den())))
		for num := low - 1; num <= low+2; num++ {
			r := big.NewRat(int64(num), int64(den))
			d := new(big.Rat).Sub(r, exact(x))
			if d.Abs(d); best == nil || d.Cmp(distance) < 0 {
				best, distance = r, d
			}
		}
	}
	return best
}

// P1.5
func TestBestTriesAll(t *testing.T) {
	for den := 1; den <= 24; den++ {
		for num := -40; num <= 40; num++ {
			x := of(t, num, den)
			for most := 1; most <= 25; most++ {
				got, e := x.Best(most)
				if want := nearest(x, most); e != api.OK || exact(got).Cmp(want) != 0 || got.Den() > most {
					t.Fatalf("%s Best %d = %s, %d; want %s", x.Text(), most, got.Text(), e, want)
				}
			}
		}
	}
}

// P1.5
func TestBest(t *testing.T) {
	for _, c := range []struct {
		num, den, most int
		text           string
		e              api.Errno
	}{
		{355, 113, 10, "22/7", api.OK},
		{355, 113, 113, "355/113", api.OK},
		{355, 113, 112, "333/106", api.OK},
		{314159265, 100000000, 1000, "355/113", api.OK},
		{1, 2, 1, "0", api.OK},
		{-1, 2, 1, "-1", api.OK},
		{5, 2, 1, "2", api.OK},
		{1, 4, 2, "0", api.OK},
		{-1, 4, 2, "0", api.OK},
		{3, 4, 2, "1", api.OK},
		{-3, 4, 2, "-1", api.OK},
		{Max - 1, Max, Max - 1, "1073741822/1073741823", api.OK},
		{Max, Max - 1, Max - 2, "1073741823/1073741822", api.OK},
		{1, Max, 1, "0", api.OK},
		{1, Max, Max - 1, "1/1073741823", api.OK},
		{1, Max, Max / 2, "0", api.OK},
		{1, Max, Max/2 + 1, "1/536870913", api.OK},
		{Max - 1, 2, 1, "536870911", api.OK},
		{1 - Max, 2, 1, "-536870912", api.OK},
		{701408733, 433494437, 300000000, "433494437/267914296", api.OK},
		{Max, 1, 1, "1073741824", api.OK},
		{1, 3, Max, "1/3", api.OK},
		{1, 3, 0, "", api.ErrRange},
		{1, 3, -1, "", api.ErrRange},
		{1, 3, Max + 1, "", api.ErrRange},
		{1, 3, math.MinInt, "", api.ErrRange},
		{1, 3, math.MaxInt, "", api.ErrRange},
		{0, 1, 0, "", api.ErrRange},
	} {
		x, e := of(t, c.num, c.den).Best(c.most)
		expect(t, "Best", x, e, c.text, c.e)
	}
}

// P1.6
func TestParseErrors(t *testing.T) {
	for _, c := range []struct {
		s  string
		at int
		e  api.Errno
	}{
		{"", 0, api.ErrShort},
		{"-", 1, api.ErrShort},
		{"1/", 2, api.ErrShort},
		{"-12/", 4, api.ErrShort},
		{"x", 0, api.ErrByte},
		{"+1", 0, api.ErrByte},
		{" 1", 0, api.ErrByte},
		{"1 ", 1, api.ErrByte},
		{"--1", 1, api.ErrByte},
		{"-/2", 1, api.ErrByte},
		{"/2", 0, api.ErrByte},
		{"1-2", 1, api.ErrByte},
		{"1/-2", 2, api.ErrByte},
		{"1//2", 2, api.ErrByte},
		{"1/2/3", 3, api.ErrByte},
		{"1/2x", 3, api.ErrByte},
		{"1:", 1, api.ErrByte},
		{"\x00", 0, api.ErrByte},
		{"\u0661", 0, api.ErrByte},
		{"12345678901", 0, api.ErrLong},
		{"-12345678901", 1, api.ErrLong},
		{"12345678901x", 0, api.ErrLong},
		{"1234567890x", 10, api.ErrByte},
		{"00000000001", 0, api.ErrLong},
		{"1/00000000001", 2, api.ErrLong},
		{"1/12345678901/", 2, api.ErrLong},
		{"x2345678901", 0, api.ErrByte},
		{"1234567890/", 11, api.ErrShort},
		{strings.Repeat("9", 1000), 0, api.ErrLong},
		{"2/4", 0, api.ErrFormat},
		{"3/1", 0, api.ErrFormat},
		{"0/1", 0, api.ErrFormat},
		{"0/3", 0, api.ErrFormat},
		{"1/0", 0, api.ErrFormat},
		{"0/0", 0, api.ErrFormat},
		{"-0", 0, api.ErrFormat},
		{"07", 0, api.ErrFormat},
		{"1/02", 0, api.ErrFormat},
		{"1073741825", 0, api.ErrFormat},
		{"1/1073741825", 0, api.ErrFormat},
		{"9999999999/9999999999", 0, api.ErrFormat},
	} {
		if x, at, e := Parse(c.s); x != (R{}) || at != c.at || e != c.e {
			t.Errorf("Parse(%q) = %s, %d, %d; want %d, %d", c.s, x.Text(), at, e, c.at, c.e)
		}
	}
}

// P1.6: all short texts; the first wrong byte is the one that no longer permits a fraction.
func TestParseShortTexts(t *testing.T) {
	const alphabet = "-/0127x"
	whole := regexp.MustCompile(`^-?\d+(/\d+)?$`)
	begin := regexp.MustCompile(`^-?(\d+(/\d*)?)?$`)
	canonical := regexp.MustCompile(`^(0|-?[1-9]\d*(/([2-9]|[1-9]\d+))?)$`)
	var try func(s string)
	try = func(s string) {
		want, at := api.OK, 0
		switch {
		case !begin.MatchString(s):
			for want, at = api.ErrByte, 0; begin.MatchString(s[:at+1]); {
				at++
			}
		case !whole.MatchString(s):
			want, at = api.ErrShort, len(s)
		default:
			r, ok := new(big.Rat).SetString(s)
			if !ok || !canonical.MatchString(s) || r.RatString() != s {
				want = api.ErrFormat
			}
		}
		x, offset, e := Parse(s)
		if e != want || offset != at || e == api.OK && x.Text() != s || e != api.OK && x != (R{}) {
			t.Errorf("Parse(%q) = %s, %d, %d; want %d, %d", s, x.Text(), offset, e, at, want)
		}
		if len(s) < 5 {
			for _, b := range alphabet {
				try(s + string(b))
			}
		}
	}
	try("")
}

// P1.6
func TestTextRoundTrip(t *testing.T) {
	for _, x := range few(t) {
		if x.Text() != exact(x).RatString() {
			t.Errorf("Text = %s; want %s", x.Text(), exact(x).RatString())
		}
		if y, at, e := Parse(x.Text()); y != x || at != 0 || e != api.OK {
			t.Errorf("Parse(%q) = %s, %d, %d", x.Text(), y.Text(), at, e)
		}
	}
}

// P1.7
func TestLaws(t *testing.T) {
	var l []R
	for num := -6; num <= 6; num++ {
		for den := 1; den <= 5; den++ {
			l = append(l, of(t, num, den))
		}
	}
	add := func(x, y R) R { z, _ := x.Add(y); return z }
	mul := func(x, y R) R { z, _ := x.Mul(y); return z }
	for _, x := range l {
		for _, y := range l {
			if add(x, y) != add(y, x) || mul(x, y) != mul(y, x) {
				t.Fatal("not commutative", x.Text(), y.Text())
			}
			if z, e := add(x, y).Sub(y); z != x || e != api.OK {
				t.Fatal("subtracting does not lead back", x.Text(), y.Text())
			}
			if x.Cmp(y) != -y.Cmp(x) {
				t.Fatal("not an order", x.Text(), y.Text())
			}
			for _, z := range l {
				if add(add(x, y), z) != add(x, add(y, z)) || mul(mul(x, y), z) != mul(x, mul(y, z)) {
					t.Fatal("not associative", x.Text(), y.Text(), z.Text())
				}
				if mul(x, add(y, z)) != add(mul(x, y), mul(x, z)) {
					t.Fatal("not distributive", x.Text(), y.Text(), z.Text())
				}
				if x.Cmp(y) != add(x, z).Cmp(add(y, z)) {
					t.Fatal("addition changes the order", x.Text(), y.Text(), z.Text())
				}
			}
		}
	}
}

// P1.7
func TestSumKeepsItsArgument(t *testing.T) {
	l := []R{of(t, 1, 2), of(t, 1, 3)}
	Sum(l)
	if l[0] != of(t, 1, 2) || l[1] != of(t, 1, 3) {
		t.Error("changed")
	}
}
