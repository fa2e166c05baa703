package graph

import (
	"iter"
	"slices"

	"gumshoe/api"
)

// facts goes through those of a kind.
func facts(l []api.Fact, kind int) iter.Seq[api.Fact] {
	return func(yield func(f api.Fact) bool) {
		for _, f := range l {
			if f.Kind == kind && !yield(f) {
				return
			}
		}
	}
}

// calls goes through those that stand in functions that are entered, as edges that go nowhere yet: sorted, as often as there are rules of them.
func calls(s api.System, entered []int) iter.Seq[api.Edge] {
	var l []api.Edge
	for _, r := range s.Rules {
		if r.Kind != api.RCall && r.Kind != api.RNew || r.F < 0 || r.F >= len(s.Funs) {
			continue
		}
		if _, ok := slices.BinarySearch(entered, r.F); ok {
			l = append(l, api.Edge{From: r.F, Mark: r.M})
		}
	}
	slices.SortFunc(l, order)
	return slices.Values(l)
}

// callees tell the functions that calls call. What was told once is not looked for again: calls of many functions may have one mark.
type callees struct {
	functions map[int][]int // by their marks
	marks     map[int][]int // that are called, by the calls' marks
	met       map[int][]int // what was told, by the calls' marks
	all       []int         // what was told, one call's behind the other's
}

func newCallees(s api.System, l []api.Fact) *callees {
	c := &callees{functions: map[int][]int{}, marks: map[int][]int{}, met: map[int][]int{}}
	for n, f := range s.Funs {
		if n > 0 {
			c.functions[f.Mark] = append(c.functions[f.Mark], n)
		}
	}
	for f := range facts(l, api.FCall) {
		c.marks[f.A] = append(c.marks[f.A], f.B)
	}
	return c
}

// of are the functions that calls of a mark call, rising, each once.
func (c *callees) of(call int) []int {
	if l, ok := c.met[call]; ok {
		return l
	}
	first := len(c.all)
	for _, mark := range rising(slices.Clone(c.marks[call])) {
		c.all = append(c.all, c.functions[mark]...)
	}
	l := c.all[first:len(c.all):len(c.all)] // no room behind it: there the next call's stand
	slices.Sort(l)
	c.met[call] = l
	return l
}
