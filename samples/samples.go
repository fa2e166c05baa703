// Package samples makes programs for the tests of the layers that run them, or lower them.
package samples

import (
	"gumshoe/api"
	"gumshoe/jlex"
	"gumshoe/jread"
	"gumshoe/jtree"
)

// Read is a text's program: of a text that is none what no layer takes for one.
func Read(text string) api.Node {
	l, _, e := jlex.Lex(text)
	if e != api.OK {
		return api.Node{}
	}
	p, _, _ := jread.Parse(l)
	return p
}

// Shown is the beginning of a program's text.
func Shown(p api.Node) string {
	s, _ := jtree.Show(p)
	return s[:min(len(s), 600)]
}

// Program is one that goes on for long, since nearly all its statements are tried. It has few names, all of which are its variables. Which of so many things comes next, choose tells.
func Program(choose func(n int) int) api.Node { return maker{choose}.program() }

// Changed is a program of which a part was changed, so that it may be no right one.
func Changed(choose func(n int) int) api.Node {
	m := maker{choose}
	p := m.program()
	n := &p
	for range choose(6) {
		if len(n.L) > 0 {
			n = &n.L[choose(len(n.L))]
		}
	}
	switch choose(4) {
	case 0:
		n.Op = choose(50) - 3
	case 1:
		n.N = int64(choose(1000) - choose(1000))
	case 2:
		n.L = n.L[:choose(len(n.L)+1)]
	case 3:
		n.S = pick(m, "", "x", "if", "+")
	}
	return p
}

// maker makes trees.
type maker struct{ choose func(n int) int }

func pick[T any](m maker, l ...T) T { return l[m.choose(len(l))] }

func node(op int, s string, l ...api.Node) api.Node { return api.Node{Op: op, S: s, L: l} }

func names() []string { return []string{"a", "b", "c", "f", "g"} }

func keys() []string { return []string{"p", "q", "prototype", "call", "apply", "length", "0"} }

func (m maker) name() string { return pick(m, names()...) }

func (m maker) id() api.Node { return node(api.XId, m.name()) }

func (m maker) program() api.Node {
	p := node(api.SBlock, "")
	for _, s := range names() {
		p.L = append(p.L, node(api.SVar, s))
	}
	p.L = append(p.L, m.function(api.SFunc, "f", 6), m.function(api.SFunc, "g", 6))
	for range 2 + m.choose(6) {
		s := m.statement(7, false, false)
		if m.choose(8) > 0 {
			s = node(api.STry, m.name(), node(api.SBlock, "", s), node(api.SBlock, ""))
		}
		p.L = append(p.L, s)
	}
	return p
}

// statement is one that may stand in a loop, or not, in a function, or not.
func (m maker) statement(high int, loop bool, fun bool) api.Node {
	x := func() api.Node { return m.expr(min(high, 4)) }
	switch m.choose(16) {
	case 0:
		return node(api.SVar, m.name(), x())
	case 1:
		return pick(m, node(api.SVar, m.name()), node(api.SVar, m.name(), x()), node(api.SThrow, "", x()))
	case 2:
		return m.block(high, loop, fun)
	case 3:
		return node(api.SIf, "", x(), m.block(high-1, loop, fun))
	case 4:
		return node(api.SIf, "", x(), m.block(high-1, loop, fun), m.block(high-1, loop, fun))
	case 5:
		return node(api.SWhile, "", x(), m.block(high-1, true, fun))
	case 6:
		return node(api.SForIn, m.name(), x(), m.block(high-1, true, fun))
	case 7, 8:
		return node(api.STry, m.name(), m.block(high-1, loop, fun), m.block(high-1, loop, fun))
	case 9:
		return m.function(api.SFunc, m.name(), high)
	case 10:
		if loop {
			return node(pick(m, api.SBreak, api.SCont), "")
		}
	case 11:
		if fun {
			return pick(m, node(api.SRet, ""), node(api.SRet, "", x()), node(api.SRet, "", x()))
		}
	}
	return node(api.SExpr, "", x())
}

func (m maker) block(high int, loop bool, fun bool) api.Node {
	b := node(api.SBlock, "")
	if high > 1 {
		for range 1 + m.choose(4) {
			b.L = append(b.L, m.statement(high-1, loop, fun))
		}
	}
	return b
}

func (m maker) function(op int, name string, high int) api.Node {
	f := node(op, name)
	for range m.choose(4) {
		f.L = append(f.L, m.id())
	}
	f.L = append(f.L, m.block(high-1, false, true))
	return f
}

// expr is an expression of at most so many levels, but for functions' blocks.
func (m maker) expr(high int) api.Node {
	if high <= 1 {
		return m.leaf()
	}
	sub := func() api.Node { return m.expr(high - 1 - m.choose(2)) }
	switch m.choose(15) {
	case 0, 1:
		return m.id()
	case 2:
		return m.function(api.XFun, pick(m, "", "", m.name()), high)
	case 3, 4:
		return m.object(sub)
	case 5:
		return m.member(sub)
	case 6, 7:
		return node(api.XSet, "", pick(m, m.id(), m.member(sub), m.member(m.id)), sub())
	case 8:
		return node(api.XBin, pick(m, "+", "-", "*", "<", "<=", "===", "!=="), sub(), sub())
	case 9:
		return node(pick(m, api.XNot, api.XNeg), "", sub())
	case 10:
		return node(pick(m, api.XAnd, api.XOr), "", sub(), sub())
	case 11:
		return node(api.XCond, "", sub(), sub(), sub())
	case 12:
		return node(api.XNew, "", m.some(pick(m, m.id(), sub()), sub)...)
	}
	return node(api.XCall, "", m.some(pick(m, m.id(), m.member(m.id), m.member(sub), sub()), sub)...)
}

// leaf is an expression of no parts.
func (m maker) leaf() api.Node {
	return pick(m, m.id(), m.id(), m.id(), node(api.XThis, ""), node(api.XInput, ""), node(api.XStr, pick(m, keys()...)), node(api.XUndef, ""),
		node(api.XNull, ""), node(api.XTrue, ""), node(api.XFalse, ""), node(api.XObj, ""), api.Node{Op: api.XNum, N: int64(m.choose(4))})
}

func (m maker) object(sub func() api.Node) api.Node {
	o := node(api.XObj, "")
	for range m.choose(4) {
		o.L = append(o.L, node(api.XPair, pick(m, keys()...), sub()))
	}
	return o
}

func (m maker) member(sub func() api.Node) api.Node {
	if m.choose(3) == 0 {
		return node(api.XIdx, "", sub(), sub())
	}
	return node(api.XMem, pick(m, "p", "q", "prototype", "call", "apply", "length"), sub())
}

// some are a tree and others behind it.
func (m maker) some(first api.Node, sub func() api.Node) []api.Node {
	l := []api.Node{first}
	for range m.choose(4) {
		l = append(l, sub())
	}
	return l
}
