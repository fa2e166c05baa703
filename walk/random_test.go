package walk_test

import (
	"math/rand/v2"
	"slices"
	"testing"

	"gumshoe/api"
	"gumshoe/jtree"
	"gumshoe/walk"
)

// maker makes programs at random, of few names, all of which are the program's variables.
type maker struct{ *rand.Rand }

func names() []string { return []string{"a", "b", "c", "f", "g"} }

func keys() []string { return []string{"p", "q", "prototype", "call", "apply", "length", "0"} }

func pick[T any](m maker, l ...T) T { return l[m.IntN(len(l))] }

func (m maker) name() string { return pick(m, names()...) }

func node(op int, s string, l ...api.Node) api.Node { return api.Node{Op: op, S: s, L: l} }

func (m maker) id() api.Node { return node(api.XId, m.name()) }

// expr is an expression of at most so many levels.
func (m maker) expr(high int) api.Node {
	if high <= 1 {
		return pick(m, m.id(), m.id(), m.id(), node(api.XThis, ""), node(api.XInput, ""), node(api.XStr, pick(m, keys()...)), node(api.XUndef, ""),
			node(api.XNull, ""), node(api.XTrue, ""), node(api.XFalse, ""), node(api.XObj, ""), api.Node{Op: api.XNum, N: int64(m.IntN(4))})
	}
	sub := func() api.Node { return m.expr(high - 1 - m.IntN(2)) }
	switch m.IntN(15) {
	case 0, 1:
		return m.id()
	case 2:
		return m.function(api.XFun, pick(m, "", "", m.name()), high)
	case 3, 4:
		o := node(api.XObj, "")
		for range m.IntN(4) {
			o.L = append(o.L, node(api.XPair, pick(m, keys()...), sub()))
		}
		return o
	case 5:
		return m.member(sub)
	case 6, 7:
		return node(api.XSet, "", pick(m, m.id(), m.member(sub), m.member(m.id)), sub())
	case 8:
		return node(api.XBin, pick(m, "+", "-", "*", "<", "<=", "===", "!=="), sub(), sub())
	case 9:
		return node(pick(m, api.XNot, api.XNeg), "", sub())
	case 10:
		return node(pick(m, api.XAnd, api.XOr), "", sub(), sub())
	case 11:
		return node(api.XCond, "", sub(), sub(), sub())
	case 12:
		return node(api.XNew, "", m.some(pick(m, m.id(), sub()), sub)...)
	}
	return node(api.XCall, "", m.some(pick(m, m.id(), m.member(m.id), m.member(sub), sub()), sub)...)
}

// some are a tree and others behind it.
func (m maker) some(first api.Node, sub func() api.Node) []api.Node {
	l := []api.Node{first}
	for range m.IntN(4) {
		l = append(l, sub())
	}
	return l
}

func (m maker) member(sub func() api.Node) api.Node {
	if m.IntN(3) == 0 {
		return node(api.XIdx, "", sub(), sub())
	}
	return node(api.XMem, pick(m, "p", "q", "prototype", "call", "apply", "length"), sub())
}

func (m maker) function(op int, name string, high int) api.Node {
	f := node(op, name)
	for range m.IntN(4) {
		f.L = append(f.L, m.id())
	}
	f.L = append(f.L, m.block(high-1, false, true))
	return f
}

func (m maker) block(high int, loop bool, fun bool) api.Node {
	b := node(api.SBlock, "")
	if high > 1 {
		for range 1 + m.IntN(4) {
			b.L = append(b.L, m.statement(high-1, loop, fun))
		}
	}
	return b
}

// statement is one that may stand in a loop, or not, in a function, or not.
func (m maker) statement(high int, loop bool, fun bool) api.Node {
	x := func() api.Node { return m.expr(min(high, 4)) }
	switch m.IntN(16) {
	case 0:
		return node(api.SVar, m.name(), x())
	case 1:
		return pick(m, node(api.SVar, m.name()), node(api.SVar, m.name(), x()), node(api.SThrow, "", x()))
	case 2:
		return m.block(high, loop, fun)
	case 3:
		return node(api.SIf, "", x(), m.block(high-1, loop, fun))
	case 4:
		return node(api.SIf, "", x(), m.block(high-1, loop, fun), m.block(high-1, loop, fun))
	case 5:
		return node(api.SWhile, "", x(), m.block(high-1, true, fun))
	case 6:
		return node(api.SForIn, m.name(), x(), m.block(high-1, true, fun))
	case 7, 8:
		return node(api.STry, m.name(), m.block(high-1, loop, fun), m.block(high-1, loop, fun))
	case 9:
		return m.function(api.SFunc, m.name(), high)
	case 10:
		if loop {
			return node(pick(m, api.SBreak, api.SCont), "")
		}
	case 11:
		if fun {
			return pick(m, node(api.SRet, ""), node(api.SRet, "", x()), node(api.SRet, "", x()))
		}
	}
	return node(api.SExpr, "", x())
}

// program is one whose statements are all tried, so that it goes on for long.
func (m maker) program() api.Node {
	p := node(api.SBlock, "")
	for _, s := range names() {
		p.L = append(p.L, node(api.SVar, s))
	}
	p.L = append(p.L, m.function(api.SFunc, "f", 6), m.function(api.SFunc, "g", 6))
	for range 2 + m.IntN(6) {
		s := m.statement(7, false, false)
		if m.IntN(8) > 0 {
			s = node(api.STry, m.name(), node(api.SBlock, "", s), node(api.SBlock, ""))
		}
		p.L = append(p.L, s)
	}
	return p
}

// P8.1: programs at random, with inputs and steps at random, held against the reference.
func TestLikeTheReference(t *testing.T) {
	var ended [5]int
	kinds := map[int]int{}
	for seed := range uint64(6000) {
		m := maker{rand.New(rand.NewPCG(8, seed))}
		p := m.program()
		input := []int64{m.Int64N(5), m.Int64N(5) - 2, m.Int64()}[:m.IntN(4)]
		fuel := pick(m, m.IntN(100), 500, 3000)
		o, line, e := walk.Run(p, input, fuel)
		if line != 0 || e != api.OK {
			t.Fatalf("seed %d: %d at %d", seed, e, line)
		}
		if want := refer(p, input, fuel); !same(o, want) {
			s, _ := jtree.Show(p)
			t.Fatalf("seed %d: %s\nends %d with %v behind %d steps, not %d with %v behind %d\n%s\nnot\n%s\n%s\nnot\n%s", seed, s,
				o.How, o.V, o.Steps, want.How, want.V, want.Steps, story(o.Events), story(want.Events), knowledge(o.Facts), knowledge(want.Facts))
		}
		ended[o.How]++
		for _, e := range o.Events {
			kinds[e.Kind]++
		}
	}
	if ended[api.WEnd] < 500 || ended[api.WFuel] < 500 || ended[api.WThrow] < 100 || ended[api.WDeep] < 3 || ended[api.WFull] < 1 {
		t.Errorf("ends %d", ended)
	}
	for kind := api.EAlloc; kind <= api.EEnter; kind++ {
		if kinds[kind] < 3000 {
			t.Errorf("%d events of the kind %d", kinds[kind], kind)
		}
	}
}

// P8.2: programs at random, with fewer steps and with more.
func TestRandomMoreSteps(t *testing.T) {
	for seed := range uint64(1500) {
		m := maker{rand.New(rand.NewPCG(82, seed))}
		p := m.program()
		whole, _, _ := walk.Run(p, []int64{2}, 2000)
		fewer, _, _ := walk.Run(p, []int64{2}, m.IntN(2000))
		more, _, _ := walk.Run(p, []int64{2}, 2001+m.IntN(9000))
		if whole.How != api.WFuel && !same(more, whole) {
			t.Fatalf("seed %d: more steps make another end", seed)
		}
		if fewer.How != api.WFuel && !same(fewer, whole) {
			t.Fatalf("seed %d: fewer steps make another end", seed)
		}
		for _, o := range [][2]api.Outcome{{fewer, whole}, {whole, more}} {
			if n := len(o[0].Events); n > len(o[1].Events) || !slices.Equal(o[0].Events, o[1].Events[:n]) {
				t.Fatalf("seed %d: no beginning", seed)
			}
		}
	}
}

// R1: what is no right program has an error, and no call panics.
func TestWrongTrees(t *testing.T) {
	for seed := range uint64(3000) {
		m := maker{rand.New(rand.NewPCG(83, seed))}
		p := m.program()
		n := &p
		for range m.IntN(6) {
			if len(n.L) > 0 {
				n = &n.L[m.IntN(len(n.L))]
			}
		}
		switch m.IntN(4) {
		case 0:
			n.Op = m.IntN(50) - 3
		case 1:
			n.N = m.Int64() - m.Int64()
		case 2:
			n.L = n.L[:m.IntN(len(n.L)+1)]
		case 3:
			n.S = pick(m, "", "x", "if", "+")
		}
		o, _, e := walk.Run(p, nil, 300)
		if !jtree.Right(p) && (e != api.ErrTree || o.Events != nil || o.Facts != nil) {
			t.Fatalf("seed %d: %d", seed, e)
		}
	}
}
