package rules

import (
	"iter"

	"gumshoe/api"
)

// tree is a part of a resolved program, with the set that is its own, and the first one behind those of all its parts.
type tree struct {
	api.Node
	set, end int
	parts    []tree
}

// numbered is a tree with its sets, from its own one on: they are numbered as Walk meets their trees.
func numbered(n api.Node, set int) tree {
	t := tree{Node: n, set: set, end: set + 1}
	for _, part := range n.L {
		p := numbered(part, t.end)
		t.parts = append(t.parts, p)
		t.end = p.end
	}
	return t
}

// sets are trees' own ones.
func sets(l []tree) []int {
	var out []int
	for _, t := range l {
		out = append(out, t.set)
	}
	return out
}

// place is where a tree stands: in which function, which set what it throws goes to, and whether it only tells what is given a value there, so that no rule is its own.
type place struct {
	fun    int
	throws int
	target bool
}

// trees goes through a resolved program as Walk does, and tells of each tree where it stands.
func (m *maker) trees(p api.Node) iter.Seq2[tree, place] {
	return func(yield func(t tree, at place) bool) {
		m.preorder(numbered(p, 0), place{throws: m.Funs[0].Throw}, yield)
	}
}

// preorder is false if yield was.
func (m *maker) preorder(t tree, at place, yield func(t tree, at place) bool) bool {
	if !yield(t, at) {
		return false
	}
	for i, part := range t.parts {
		if !m.preorder(part, m.within(t, at, i), yield) {
			return false
		}
	}
	return true
}

// within is the place of a tree's part.
func (m *maker) within(t tree, at place, i int) place {
	at.target = false
	switch t.Op {
	case api.SFunc, api.XFun:
		return place{fun: int(t.N), throws: m.Funs[t.N].Throw, target: i < len(t.parts)-1}
	case api.STry:
		if i == 0 {
			at.throws = m.variable(t.N)
		}
	case api.XSet:
		at.target = i == 0
	}
	return at
}
