package scope

import (
	"iter"

	"gumshoe/api"
)

// Numbers of functions: of the one that all stands in, and of none, which stands around that one.
const (
	program = 0
	outside = -1
)

// place is what stands around a tree: the number of its function, and whether a loop of that function does.
type place struct {
	fun  int
	loop bool
}

// trees goes through a tree as Walk does, and tells of each part where it stands. Its body may write into a tree, but not into the tree's list; it gives functions their numbers.
func trees(p *api.Node) iter.Seq2[*api.Node, place] {
	return func(yield func(n *api.Node, at place) bool) { preorder(p, place{fun: outside}, yield) }
}

// preorder is false if yield was.
func preorder(n *api.Node, at place, yield func(n *api.Node, at place) bool) bool {
	if !yield(n, at) {
		return false
	}
	at = at.within(n)
	for i := range n.L {
		if !preorder(&n.L[i], at, yield) {
			return false
		}
	}
	return true
}

// within is the place of a tree's parts.
func (at place) within(n *api.Node) place {
	switch n.Op {
	case api.SFunc, api.XFun:
		return place{fun: int(n.N)} // loops around a function are none of its own
	case api.SWhile, api.SForIn:
		at.loop = true
	}
	return at
}
