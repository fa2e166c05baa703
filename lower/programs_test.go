package lower_test

import (
	"math/rand/v2"

	"gumshoe/api"
)

// maker makes programs at random, of few names, all of which are the program's variables.
type maker struct{ *rand.Rand }

func names() []string { return []string{"a", "b", "c", "f", "g"} }

func keys() []string { return []string{"p", "q", "prototype", "call", "apply", "length", "0"} }

func pick[T any](m maker, l ...T) T { return l[m.IntN(len(l))] }

func (m maker) name() string { return pick(m, names()...) }

func node(op int, s string, l ...api.Node) api.Node { return api.Node{Op: op, S: s, L: l} }

func (m maker) id() api.Node { return node(api.XId, m.name()) }

// expr is an expression of at most so many levels.
func (m maker) expr(high int) api.Node {
	if high <= 1 {
		return pick(m, m.id(), m.id(), m.id(), node(api.XThis, ""), node(api.XInput, ""), node(api.XStr, pick(m, keys()...)), node(api.XUndef, ""),
			node(api.XNull, ""), node(api.XTrue, ""), node(api.XFalse, ""), node(api.XObj, ""), api.Node{Op: api.XNum, N: int64(m.IntN(4))})
	}
	sub := func() api.Node { return m.expr(high - 1 - m.IntN(2)) }
	switch m.IntN(15) {
	case 0, 1:
		return m.id()
	case 2:
		return m.function(api.XFun, pick(m, "", "", m.name()), high)
	case 3, 4:
		o := node(api.XObj, "")
		for range m.IntN(4) {
			o.L = append(o.L, node(api.XPair, pick(m, keys()...), sub()))
		}
		return o
	case 5:
		return m.member(sub)
	case 6, 7:
		return node(api.XSet, "", pick(m, m.id(), m.member(sub), m.member(m.id)), sub())
	case 8:
		return node(api.XBin, pick(m, "+", "-", "*", "<", "<=", "===", "!=="), sub(), sub())
	case 9:
		return node(pick(m, api.XNot, api.XNeg), "", sub())
	case 10:
		return node(pick(m, api.XAnd, api.XOr), "", sub(), sub())
	case 11:
		return node(api.XCond, "", sub(), sub(), sub())
	case 12:
		return node(api.XNew, "", m.some(pick(m, m.id(), sub()), sub)...)
	}
	return node(api.XCall, "", m.some(pick(m, m.id(), m.member(m.id), m.member(sub), sub()), sub)...)
}

// some are a tree and others behind it.
func (m maker) some(first api.Node, sub func() api.Node) []api.Node {
	l := []api.Node{first}
	for range m.IntN(4) {
		l = append(l, sub())
	}
	return l
}

func (m maker) member(sub func() api.Node) api.Node {
	if m.IntN(3) == 0 {
		return node(api.XIdx, "", sub(), sub())
	}
	return node(api.XMem, pick(m, "p", "q", "prototype", "call", "apply", "length"), sub())
}

func (m maker) function(op int, name string, high int) api.Node {
	f := node(op, name)
	for range m.IntN(4) {
		f.L = append(f.L, m.id())
	}
	f.L = append(f.L, m.block(high-1, false, true))
	return f
}

func (m maker) block(high int, loop bool, fun bool) api.Node {
	b := node(api.SBlock, "")
	if high > 1 {
		for range 1 + m.IntN(4) {
			b.L = append(b.L, m.statement(high-1, loop, fun))
		}
	}
	return b
}

// statement is one that may stand in a loop, or not, in a function, or not.
func (m maker) statement(high int, loop bool, fun bool) api.Node {
	x := func() api.Node { return m.expr(min(high, 4)) }
	switch m.IntN(16) {
	case 0:
		return node(api.SVar, m.name(), x())
	case 1:
		return pick(m, node(api.SVar, m.name()), node(api.SVar, m.name(), x()), node(api.SThrow, "", x()))
	case 2:
		return m.block(high, loop, fun)
	case 3:
		return node(api.SIf, "", x(), m.block(high-1, loop, fun))
	case 4:
		return node(api.SIf, "", x(), m.block(high-1, loop, fun), m.block(high-1, loop, fun))
	case 5:
		return node(api.SWhile, "", x(), m.block(high-1, true, fun))
	case 6:
		return node(api.SForIn, m.name(), x(), m.block(high-1, true, fun))
	case 7, 8:
		return node(api.STry, m.name(), m.block(high-1, loop, fun), m.block(high-1, loop, fun))
	case 9:
		return m.function(api.SFunc, m.name(), high)
	case 10:
		if loop {
			return node(pick(m, api.SBreak, api.SCont), "")
		}
	case 11:
		if fun {
			return pick(m, node(api.SRet, ""), node(api.SRet, "", x()), node(api.SRet, "", x()))
		}
	}
	return node(api.SExpr, "", x())
}

// program is one whose statements are all tried, so that it goes on for long.
func (m maker) program() api.Node {
	p := node(api.SBlock, "")
	for _, s := range names() {
		p.L = append(p.L, node(api.SVar, s))
	}
	p.L = append(p.L, m.function(api.SFunc, "f", 6), m.function(api.SFunc, "g", 6))
	for range 2 + m.IntN(6) {
		s := m.statement(7, false, false)
		if m.IntN(8) > 0 {
			s = node(api.STry, m.name(), node(api.SBlock, "", s), node(api.SBlock, ""))
		}
		p.L = append(p.L, s)
	}
	return p
}

// made is the program of a seed.
func made(kind uint64, seed uint64) api.Node { return maker{generator(kind, seed)}.program() }

func generator(kind uint64, seed uint64) *rand.Rand { return rand.New(rand.NewPCG(kind, seed)) }
