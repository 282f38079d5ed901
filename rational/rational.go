// Package rational provides exact fractions of bounded size (layer 1, see shared/doc/01-rational.md).
package rational

import (
	"cmp"
	"strconv"
	"strings"

	"hemiola/api"
)

// Max is the greatest numerator and denominator.
const Max = 1 << 30

// maxDigits is the number of digits that a number in a text may have; Max has as many.
const maxDigits = 10

// R is a fraction in lowest terms; the zero value is 0. Equal fractions are equal values.
type R struct {
	num  int
	over int // the denominator less 1, so that the zero value is 0/1
}

// Of returns num / den, and Int the integer n.
func Of(num, den int) (R, api.Errno) {
	if den == 0 {
		return R{}, api.ErrDivide
	}
	n, d := magnitude(num), magnitude(den)
	g := divisor(n, d)
	n, d = n/g, d/g
	if n > Max || d > Max {
		return R{}, api.ErrOverflow
	}
	x := R{int(n), int(d) - 1}
	if (num < 0) != (den < 0) {
		x = x.Neg()
	}
	return x, api.OK
}

func Int(n int) (R, api.Errno) { return Of(n, 1) }

// magnitude is unsigned because the least int has no positive counterpart.
func magnitude(n int) uint64 {
	if n < 0 {
		return -uint64(n)
	}
	return uint64(n)
}

func divisor(a, b uint64) uint64 {
	for b != 0 {
		a, b = b, a%b
	}
	return a
}

// Num and Den return the numerator and the denominator in lowest terms; the denominator is positive.
func (x R) Num() int { return x.num }

func (x R) Den() int { return x.over + 1 }

// Add, Sub, Mul and Div return x + y, x - y, x * y and x / y, and Neg returns -x.
func (x R) Add(y R) (R, api.Errno) {
	return Of(x.num*y.Den()+y.num*x.Den(), x.Den()*y.Den())
}

func (x R) Sub(y R) (R, api.Errno) { return x.Add(y.Neg()) }

func (x R) Mul(y R) (R, api.Errno) { return Of(x.num*y.num, x.Den()*y.Den()) }

func (x R) Div(y R) (R, api.Errno) { return Of(x.num*y.Den(), x.Den()*y.num) }

func (x R) Neg() R { return R{-x.num, x.over} }

// Cmp returns -1, 0 or 1 if x is less than, equal to or greater than y, and Sign does the same for 0.
func (x R) Cmp(y R) int {
	if x == y {
		return 0
	}
	return cmp.Compare(x.num*y.Den(), y.num*x.Den())
}

func (x R) Sign() int { return x.Cmp(R{}) }

// Floor returns the greatest integer that is not greater than x, Ceil the least one that is not less, and Round the nearest one (upwards if there are two).
func (x R) Floor() int { return floor(x.num, x.Den()) }

func (x R) Ceil() int { return -floor(-x.num, x.Den()) }

func (x R) Round() int { return floor(2*x.num+x.Den(), 2*x.Den()) }

// floor exists because Go's division rounds towards 0.
func floor(num, den int) int {
	q := num / den
	if num%den < 0 {
		q--
	}
	return q
}

// bound is a fraction beside x; gap is the distance between them, multiplied by both denominators.
type bound struct{ num, den, gap int }

// Best returns the nearest fraction to x whose denominator is at most a number.
func (x R) Best(most int) (R, api.Errno) {
	if most < 1 || most > Max {
		return R{}, api.ErrRange
	}
	if x.Den() <= most {
		return x, api.OK
	}
	low, high := x.around(most)
	b := low
	if d := cmp.Compare(high.gap*low.den, low.gap*high.den); d < 0 || d == 0 && high.den < low.den {
		b = high
	}
	return R{b.num, b.den - 1}, api.OK
}

// around returns the greatest fraction below x and the least one above it with denominators up to most, which is less than that of x.
func (x R) around(most int) (low, high bound) {
	n := x.Floor()
	gap := x.num - n*x.Den()
	low, high = bound{n, 1, gap}, bound{n + 1, 1, x.Den() - gap}
	for low.den+high.den <= most {
		low = low.towards(high, most)
		high = high.towards(low, most)
	}
	return low, high
}

// towards adds numerators and denominators of the bound on the other side as often as neither x nor the greatest denominator is passed.
func (b bound) towards(other bound, most int) bound {
	k := min(b.gap/other.gap, (most-b.den)/other.den)
	return bound{b.num + k*other.num, b.den + k*other.den, b.gap - k*other.gap}
}

// Text returns the text of x, and Parse the fraction of a text, or the offset of the first error and the error.
func (x R) Text() string {
	s := strconv.Itoa(x.num)
	if x.over > 0 {
		s += "/" + strconv.Itoa(x.Den())
	}
	return s
}

func Parse(s string) (x R, at int, e api.Errno) {
	num, den, at, e := quotient(s)
	if e != api.OK {
		return R{}, at, e
	}
	x, e = Of(num, den)
	if e != api.OK || x.Text() != s {
		return R{}, 0, api.ErrFormat
	}
	return x, 0, api.OK
}

// quotient reads a numerator and perhaps a denominator, or returns the offset of the first error.
func quotient(s string) (num, den, at int, e api.Errno) {
	digits, negative := strings.CutPrefix(s, "-")
	num, at, e = number(s, len(s)-len(digits))
	if negative {
		num = -num
	}
	if e != api.OK || at == len(s) {
		return num, 1, at, e
	}
	if s[at] != '/' {
		return 0, 0, at, api.ErrByte
	}
	den, at, e = number(s, at+1)
	if e == api.OK && at < len(s) {
		e = api.ErrByte
	}
	return num, den, at, e
}

// number reads the digits from an offset on, and returns the offset behind them or that of the error.
func number(s string, from int) (n, at int, e api.Errno) {
	count := 0
	for at = from; at < len(s) && '0' <= s[at] && s[at] <= '9'; at, count = at+1, count+1 {
		if count == maxDigits {
			return 0, from, api.ErrLong
		}
		n = 10*n + int(s[at]-'0')
	}
	switch {
	case count > 0:
		return n, at, api.OK
	case at == len(s):
		return 0, at, api.ErrShort
	}
	return 0, at, api.ErrByte
}

// Sum returns the sum of fractions.
func Sum(l []R) (R, api.Errno) {
	sum := R{}
	for _, x := range l {
		var e api.Errno
		if sum, e = sum.Add(x); e != api.OK {
			return R{}, e
		}
	}
	return sum, api.OK
}
