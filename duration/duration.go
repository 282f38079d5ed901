// Package duration converts note values into ticks, and decomposes durations into note values. It is layer 2: see shared/doc/02-duration.md.
package duration

import (
	"iter"
	"strings"

	"hemiola/api"
)

// The limits of note values, of durations that are decomposed, and of lists.
const (
	MinLog   = -1
	MaxLog   = 8
	MaxDots  = 3
	MaxTicks = 4 * api.Whole
	MaxList  = 1024
)

// The shortest note value, the common divisor of all durations, and the longest text of a note value.
const (
	shortest = api.Whole >> MaxLog
	step     = shortest >> MaxDots
	maxText  = len("256...")
)

// The words of the Logs from MinLog on, and of the numbers of dots.
var (
	texts = [MaxLog - MinLog + 1]string{"b", "1", "2", "4", "8", "16", "32", "64", "128", "256"}
	names = [MaxLog - MinLog + 1]string{"double whole", "whole", "half", "quarter", "eighth", "16th", "32nd", "64th", "128th", "256th"}
	dots  = [MaxDots + 1]string{"", "dotted ", "double-dotted ", "triple-dotted "}
)

// Check returns the error of a note value, and Ticks its duration.
func Check(v api.Value) api.Errno {
	if v.Log < MinLog || v.Log > MaxLog || v.Dots < 0 || v.Dots > MaxDots {
		return api.ErrValue
	}
	return api.OK
}

func Ticks(v api.Value) (int, api.Errno) {
	if e := Check(v); e != api.OK {
		return 0, e
	}
	return length(v), api.OK
}

// length is the duration of a valid note value.
func length(v api.Value) int {
	plain := 2 * api.Whole >> (v.Log - MinLog)
	ticks := plain
	for k := range v.Dots {
		ticks += plain >> (k + 1)
	}
	return ticks
}

// values yields all note values with their durations, in decreasing order: three dots add less than the next greater note value.
func values() iter.Seq2[api.Value, int] {
	return func(yield func(api.Value, int) bool) {
		for log := MinLog; log <= MaxLog; log++ {
			for d := MaxDots; d >= 0; d-- {
				v := api.Value{Log: log, Dots: d}
				if !yield(v, length(v)) {
					return
				}
			}
		}
	}
}

// Find returns the note value with a duration.
func Find(ticks int) (api.Value, api.Errno) {
	for v, n := range values() {
		if n == ticks {
			return v, api.OK
		}
	}
	return api.Value{}, api.ErrValue
}

// All returns all note values, the longest one first.
func All() []api.Value {
	var l []api.Value
	for v := range values() {
		l = append(l, v)
	}
	return l
}

// Decompose returns the fewest note values that last as long together, the longest ones first.
func Decompose(ticks int) ([]api.Value, api.Errno) {
	if ticks < 0 || ticks > MaxTicks {
		return nil, api.ErrRange
	}
	if ticks%step != 0 {
		return nil, api.ErrValue
	}
	s := search{}
	for notes := 0; notes*shortest <= ticks; notes++ {
		if g := (goal{ticks, notes}); s.reached(g) {
			return s.list(g), api.OK
		}
	}
	return nil, api.ErrValue
}

// goal is a duration that should be reached with so many note values.
type goal struct{ ticks, notes int }

// search keeps the results of first.
type search map[goal]int

// reached reports whether there is a list of note values for a goal.
func (s search) reached(g goal) bool {
	return g == goal{} || g.notes > 0 && s.first(g) > 0
}

// first returns the greatest duration in any list for a goal, or 0 if there is no list. As the greatest duration of a list is at least the average one, lesser ones are not tried.
func (s search) first(g goal) int {
	if n, ok := s[g]; ok {
		return n
	}
	s[g] = 0
	for _, n := range values() {
		if n*g.notes < g.ticks {
			break
		}
		if n <= g.ticks && s.reached(goal{g.ticks - n, g.notes - 1}) {
			s[g] = n
			break
		}
	}
	return s[g]
}

// list returns the list for a goal that is reached. What follows the greatest duration contains none greater, since it would have come first.
func (s search) list(g goal) []api.Value {
	var l []api.Value
	for g.notes > 0 {
		n := s.first(g)
		v, _ := Find(n)
		l = append(l, v)
		g = goal{g.ticks - n, g.notes - 1}
	}
	return l
}

// Sum returns the duration of note values one after another.
func Sum(l []api.Value) (int, api.Errno) {
	if len(l) > MaxList {
		return 0, api.ErrLong
	}
	sum := 0
	for _, v := range l {
		n, e := Ticks(v)
		if e != api.OK {
			return 0, e
		}
		sum += n
	}
	return sum, api.OK
}

// Text returns the text of a note value, and Parse the note value with a text.
func Text(v api.Value) (string, api.Errno) {
	if e := Check(v); e != api.OK {
		return "", e
	}
	return texts[v.Log-MinLog] + strings.Repeat(".", v.Dots), api.OK
}

func Parse(s string) (api.Value, api.Errno) {
	if s == "" {
		return api.Value{}, api.ErrShort
	}
	if len(s) > maxText {
		return api.Value{}, api.ErrLong
	}
	plain := strings.TrimRight(s, ".")
	for i, text := range texts {
		v := api.Value{Log: i + MinLog, Dots: len(s) - len(plain)}
		if plain == text && Check(v) == api.OK {
			return v, api.OK
		}
	}
	return api.Value{}, api.ErrSyntax
}

// Name returns the English name of a note value.
func Name(v api.Value) (string, api.Errno) {
	if e := Check(v); e != api.OK {
		return "", e
	}
	return dots[v.Dots] + names[v.Log-MinLog], api.OK
}

// Scale returns the note value that is twice as long as often as a number says, or half as long for a negative number.
func Scale(v api.Value, by int) (api.Value, api.Errno) {
	scaled := api.Value{Log: v.Log - by, Dots: v.Dots}
	if Check(v) != api.OK || Check(scaled) != api.OK {
		return api.Value{}, api.ErrValue
	}
	return scaled, api.OK
}

// Flags returns the number of flags or beams of a note value, and Stemmed whether its notes have stems.
func Flags(v api.Value) int {
	if Check(v) != api.OK || v.Log < 3 {
		return 0
	}
	return v.Log - 2
}

func Stemmed(v api.Value) bool { return Check(v) == api.OK && v.Log >= 1 }
