// Package bits is layer 1, sets of numbers, and a queue that has each number once: see shared/doc/01-bits.md.
package bits

import (
	"iter"

	"gumshoe/api"
)

// Right tells whether a list is a set.
func Right(l []int) bool {
	least := 0
	for _, n := range l {
		if n < least || n > api.MaxSet {
			return false
		}
		least = n + 1
	}
	return true
}

// Add is a set with a number, and whether that is new to it.
func Add(l []int, n int) ([]int, bool, api.Errno) {
	alone := []int{n}
	if !allRight(l, alone) {
		return nil, false, api.ErrArg
	}
	out := united(l, alone)
	return out, len(out) > len(l), api.OK
}

// Has tells whether a number is one of a list's, which need not be a set: so nothing but looking at each will do.
func Has(l []int, n int) bool {
	for _, m := range l {
		if m == n {
			return true
		}
	}
	return false
}

// Union is the set of all numbers that are in one of the sets.
func Union(l ...[]int) ([]int, api.Errno) {
	if !allRight(l...) {
		return nil, api.ErrArg
	}
	return united(l...), api.OK
}

// Minus is the set of a's numbers that b has not.
func Minus(a []int, b []int) ([]int, api.Errno) {
	if !allRight(a, b) {
		return nil, api.ErrArg
	}
	return chosen(a, b, func(f found) bool { return f.inA && !f.inB }), api.OK
}

// Meet is the set of a's numbers that b has.
func Meet(a []int, b []int) ([]int, api.Errno) {
	if !allRight(a, b) {
		return nil, api.ErrArg
	}
	return chosen(a, b, func(f found) bool { return f.inA && f.inB }), api.OK
}

// Within tells whether all of a's numbers are in b.
func Within(a []int, b []int) (bool, api.Errno) {
	if !allRight(a, b) {
		return false, api.ErrArg
	}
	left := len(a)
pass:
	for f := range merged(a, b) {
		switch {
		case left == 0, !f.inB: // nothing that comes behind makes a difference any more
			break pass
		case f.inA:
			left--
		}
	}
	return left == 0, api.OK
}

func allRight(l ...[]int) bool {
	for _, s := range l {
		if !Right(s) {
			return false
		}
	}
	return true
}

// united halves its sets, so that no number is handled more often than the count of sets can be halved.
func united(l ...[]int) []int {
	switch len(l) {
	case 0:
		return nil
	case 1:
		return append([]int(nil), l[0]...) // a copy: what is answered shares nothing with what was handed in
	}
	half := len(l) / 2
	a, b := united(l[:half]...), united(l[half:]...)
	return chosen(a, b, func(found) bool { return true })
}

// found is a number that at least one of two sets has.
type found struct {
	n        int
	inA, inB bool
}

func chosen(a []int, b []int, wanted func(f found) bool) []int {
	var out []int
	for f := range merged(a, b) {
		if wanted(f) {
			out = append(out, f.n)
		}
	}
	return out
}

// merged goes through two sets at once: both rise, so one pass meets each number once, in order.
func merged(a []int, b []int) iter.Seq[found] {
	return func(yield func(f found) bool) {
		i, j := 0, 0
		for i < len(a) || j < len(b) {
			f := least(a[i:], b[j:])
			if !yield(f) {
				return
			}
			if f.inA {
				i++
			}
			if f.inB {
				j++
			}
		}
	}
}

// least is the first number of two sets, one of which has some.
func least(a []int, b []int) found {
	switch {
	case len(b) == 0 || len(a) > 0 && a[0] < b[0]:
		return found{n: a[0], inA: true}
	case len(a) == 0 || b[0] < a[0]:
		return found{n: b[0], inB: true}
	}
	return found{n: a[0], inA: true, inB: true}
}
