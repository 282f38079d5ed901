// Package tuplet calculates the lengths of events under nested tuplets. It is layer 3: see shared/doc/03-tuplet.md.
package tuplet

import (
	"cmp"
	"slices"

	"hemiola/api"
)

// The limits of tuplets.
const (
	MaxDepth   = 3  // tuplets that contain an event
	MaxRatio   = 32 // of Actual and Normal
	MaxWritten = 4 * api.Whole
)

// The Logs of the longest and of the shortest unit.
const (
	minLog = -1
	maxLog = 8
)

// Check returns the first error of the tuplets of a number of events.
func Check(l []api.Tuplet, events int) api.Errno {
	if events < 0 || events > api.MaxEvents {
		return api.ErrRange
	}
	if len(l) > api.MaxTuplets {
		return api.ErrLimit
	}
	open := opener(l)
	for i, t := range l {
		if !inRange(t, events) {
			return api.ErrRange
		}
		if i > 0 && compare(l[i-1], t) > 0 {
			return api.ErrOrder
		}
		outer, depth := open(i)
		if depth >= MaxDepth || outer >= 0 && end(l[outer]) < end(t) {
			return api.ErrTuplet
		}
	}
	return api.OK
}

// inRange compares First with a difference, because First + Count could overflow.
func inRange(t api.Tuplet, events int) bool {
	return t.Count >= 1 && t.First >= 0 && t.First <= events-t.Count &&
		isRatio(t.Actual) && isRatio(t.Normal) && t.Actual != t.Normal
}

func isRatio(n int) bool { return n >= 1 && n <= MaxRatio }

func compare(a, b api.Tuplet) int {
	return cmp.Or(cmp.Compare(a.First, b.First), cmp.Compare(b.Count, a.Count))
}

func end(t api.Tuplet) int { return t.First + t.Count }

// opener returns a function that is called with the index of one tuplet after the other. It returns the innermost of the earlier tuplets that are still open where this one begins, or -1, and their number.
func opener(l []api.Tuplet) func(i int) (outer, depth int) {
	var stack []int
	return func(i int) (outer, depth int) {
		for len(stack) > 0 && end(l[stack[len(stack)-1]]) <= l[i].First {
			stack = stack[:len(stack)-1]
		}
		outer, depth = -1, len(stack)
		if depth > 0 {
			outer = stack[depth-1]
		}
		stack = append(stack, i)
		return outer, depth
	}
}

// Canonical returns tuplets in their order: by the first event, and those with more events first.
func Canonical(l []api.Tuplet) []api.Tuplet {
	sorted := slices.Clone(l)
	slices.SortStableFunc(sorted, compare)
	return sorted
}

// Depth returns how many tuplets contain an event, and Ratio the fraction in lowest terms by which its length is multiplied.
func Depth(l []api.Tuplet, event int) int {
	if Check(l, api.MaxEvents) != api.OK {
		return 0
	}
	depth := 0
	for _, t := range l {
		if contains(t, event) {
			depth++
		}
	}
	return depth
}

func Ratio(l []api.Tuplet, event int) (num, den int) {
	if Check(l, api.MaxEvents) != api.OK {
		return 0, 0
	}
	num, den = product(l, event)
	g := divisor(num, den)
	return num / g, den / g
}

func contains(t api.Tuplet, event int) bool { return t.First <= event && event < end(t) }

// product multiplies the ratios of the tuplets that contain an event, not in lowest terms.
func product(l []api.Tuplet, event int) (num, den int) {
	num, den = 1, 1
	for _, t := range l {
		if contains(t, event) {
			num, den = num*t.Normal, den*t.Actual
		}
	}
	return num, den
}

func divisor(a, b int) int {
	for b != 0 {
		a, b = b, a%b
	}
	return a
}

// Length returns the length of an event with a written length, Lengths those of all events, and Sum their sum.
func Length(l []api.Tuplet, event, written int) (int, api.Errno) {
	if e := Check(l, api.MaxEvents); e != api.OK {
		return 0, e
	}
	if event < 0 || event >= api.MaxEvents {
		return 0, api.ErrRange
	}
	return length(l, event, written)
}

func Lengths(l []api.Tuplet, written []int) ([]int, api.Errno) {
	if e := Check(l, len(written)); e != api.OK {
		return nil, e
	}
	lengths := make([]int, len(written))
	for i, w := range written {
		n, e := length(l, i, w)
		if e != api.OK {
			return nil, e
		}
		lengths[i] = n
	}
	return lengths, api.OK
}

func Sum(l []api.Tuplet, written []int) (int, api.Errno) {
	lengths, e := Lengths(l, written)
	sum := 0
	for _, n := range lengths {
		sum += n
	}
	return sum, e
}

// length is the length of an event under tuplets that need no check.
func length(l []api.Tuplet, event, written int) (int, api.Errno) {
	if written < 0 || written > MaxWritten {
		return 0, api.ErrRange
	}
	num, den := product(l, event)
	if written*num%den != 0 {
		return 0, api.ErrTick
	}
	return written * num / den, api.OK
}

// Tree returns, for each tuplet, the index of the smallest one that contains it, or -1.
func Tree(l []api.Tuplet, events int) ([]int, api.Errno) {
	if e := Check(l, events); e != api.OK {
		return nil, e
	}
	open := opener(l)
	tree := make([]int, len(l))
	for i := range l {
		tree[i], _ = open(i)
	}
	return tree, api.OK
}

// Units returns, for each tuplet, the note value (its Log) of which it contains Actual notes.
func Units(l []api.Tuplet, written []int) ([]int, api.Errno) {
	if _, e := Lengths(l, written); e != api.OK {
		return nil, e
	}
	units := make([]int, len(l))
	for i, t := range l {
		log, e := unit(t, l[i+1:], written)
		if e != api.OK {
			return nil, e
		}
		units[i] = log
	}
	return units, api.OK
}

// unit returns the Log of the unit of a tuplet; within it, only the tuplets that come later count.
func unit(t api.Tuplet, later []api.Tuplet, written []int) (int, api.Errno) {
	sum := 0
	for i := t.First; i < end(t); i++ {
		n, e := length(later, i, written[i])
		if e != api.OK {
			return 0, api.ErrTuplet
		}
		sum += n
	}
	for log := minLog; log <= maxLog; log++ {
		if sum == t.Actual*(2*api.Whole>>(log-minLog)) {
			return log, api.OK
		}
	}
	return 0, api.ErrTuplet
}

// Insert returns the tuplets after a number of events were inserted before an event, and Delete after some were deleted.
func Insert(l []api.Tuplet, events, at, count int) ([]api.Tuplet, api.Errno) {
	if e := Check(l, events); e != api.OK {
		return nil, e
	}
	if at < 0 || at > events || count < 0 || count > api.MaxEvents-events {
		return nil, api.ErrRange
	}
	changed := slices.Clone(l)
	for i, t := range l {
		switch {
		case t.First >= at:
			changed[i].First += count
		case contains(t, at):
			changed[i].Count += count
		}
	}
	return changed, api.OK
}

func Delete(l []api.Tuplet, events, at, count int) ([]api.Tuplet, api.Errno) {
	if e := Check(l, events); e != api.OK {
		return nil, e
	}
	if at < 0 || count < 0 || count > events-at {
		return nil, api.ErrRange
	}
	// moved returns how many of the events before an event are left.
	moved := func(event int) int { return min(event, max(at, event-count)) }
	var left []api.Tuplet
	for _, t := range l {
		first := moved(t.First)
		t.First, t.Count = first, moved(end(t))-first
		if t.Count > 0 {
			left = append(left, t)
		}
	}
	return Canonical(left), api.OK
}

// Equal reports whether two lists are equal.
func Equal(a, b []api.Tuplet) bool { return slices.Equal(a, b) }
