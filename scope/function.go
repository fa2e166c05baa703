package scope

import (
	"iter"

	"gumshoe/api"
)

// function is what api tells of one, and at which places among its variables their names stand.
type function struct {
	api.Fun
	places map[string]int
}

// opened is a function with its variables.
func opened(n api.Node) function {
	f := function{Fun: api.Fun{Name: n.S}, places: map[string]int{}}
	last := len(n.L) - 1
	for _, x := range n.L[:last] {
		f.declare(x.S)
	}
	f.Params = len(f.Vars)
	if n.Op == api.XFun && n.S != "" {
		f.declare(n.S)
	}
	for s := range declared(n.L[last]) {
		f.declare(s)
	}
	return f
}

// declare makes a name a variable, unless it is one.
func (f *function) declare(s string) {
	if _, ok := f.places[s]; ok {
		return
	}
	f.places[s] = len(f.Vars)
	f.Vars = append(f.Vars, s)
}

// declared goes through the names that a function's block makes its variables, each time that it does so.
func declared(block api.Node) iter.Seq[string] {
	return func(yield func(s string) bool) { declares(block, yield) }
}

// declares is false if yield was.
func declares(n api.Node, yield func(s string) bool) bool {
	switch n.Op {
	case api.XFun: // what stands within is another function's
		return true
	case api.SFunc:
		return yield(n.S)
	case api.SVar, api.SForIn, api.STry:
		if !yield(n.S) {
			return false
		}
	}
	for _, part := range n.L {
		if !declares(part, yield) {
			return false
		}
	}
	return true
}
