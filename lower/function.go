package lower

import (
	"iter"
	"slices"

	"gumshoe/api"
)

// functions goes through a program's functions, as Walk meets them: the first one is the program.
func functions(p api.Node) iter.Seq[api.Node] {
	return func(yield func(f api.Node) bool) { nested(p, yield) }
}

// nested is false if yield was.
func nested(f api.Node, yield func(f api.Node) bool) bool {
	if !yield(f) {
		return false
	}
	for n := range parts(body(f)) {
		if isFunction(n) && !nested(n, yield) {
			return false
		}
	}
	return true
}

// parts goes through the trees of a function's block, as Walk does, but not through those of functions within it.
func parts(block api.Node) iter.Seq[api.Node] {
	return func(yield func(n api.Node) bool) { preorder(block, yield) }
}

// preorder is false if yield was.
func preorder(n api.Node, yield func(n api.Node) bool) bool {
	if !yield(n) {
		return false
	}
	if isFunction(n) {
		return true
	}
	for _, part := range n.L {
		if !preorder(part, yield) {
			return false
		}
	}
	return true
}

func isFunction(n api.Node) bool { return n.Op == api.SFunc || n.Op == api.XFun }

// body is a function's block: the program is its own.
func body(f api.Node) api.Node {
	if isFunction(f) {
		return f.L[len(f.L)-1]
	}
	return f
}

// lowered is a function's proc.
func lowered(f api.Node, fun api.Fun) api.Proc {
	m := newMaker()
	m.begin(f, fun)
	m.block(body(f))
	m.add(api.Ins{Op: api.IRet, A: none})
	return api.Proc{Regs: m.regs, Ins: m.ins}
}

// begin gives a function what it has, besides its arguments, as it is entered: its own name, and the closures of functions within it.
func (m *maker) begin(f api.Node, fun api.Fun) {
	first := f.N * api.VarSpan
	if f.Op == api.XFun && f.S != "" && !slices.Contains(fun.Vars[:fun.Params], f.S) {
		m.keep(api.Ins{Op: api.ISelf}, first+int64(fun.Params))
	}
	for n := range parts(body(f)) {
		if n.Op == api.SFunc {
			m.keep(api.Ins{Op: api.IFun, N: n.N}, first+int64(slices.Index(fun.Vars, n.S)))
		}
	}
}

// keep lets a variable become what an instruction gives.
func (m *maker) keep(i api.Ins, variable int64) {
	i.D = m.take()
	m.add(i, api.Ins{Op: api.ISet, A: i.D, N: variable})
	m.used = i.D
}
