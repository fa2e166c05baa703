package jtree_test

import (
	"math"
	"slices"
	"strconv"
	"strings"
	"testing"

	"gumshoe/api"
	"gumshoe/jlex"
	"gumshoe/jtree"
)

// anyTrees are trees, right and wrong.
func anyTrees() []api.Node {
	l := []api.Node{{}, node(-1, "a b"), {Op: 7, N: -5}, {Op: math.MaxInt, N: math.MinInt64, S: "\xff"}, node(0, "", node(0, ""), node(99, "x", id("a"))), pair("p", pair("q", block()))}
	for _, c := range append(expressions(), statements()...) {
		l = append(l, c.n, block(c.n))
	}
	return l
}

// P3.1: Same asks for all, but lines, and takes nil and empty lists for one.
func TestSame(t *testing.T) {
	for _, n := range anyTrees() {
		if !jtree.Same(n, n) || !jtree.Same(n, lined(n, 7)) || !jtree.Same(lined(n, -3), n) {
			t.Errorf("%+v is not the same as itself", n)
		}
		for _, change := range []func(x *api.Node){
			func(x *api.Node) { x.Op++ },
			func(x *api.Node) { x.S += "a" },
			func(x *api.Node) { x.N++ },
			func(x *api.Node) { x.L = append(x.L, api.Node{}) },
			func(x *api.Node) { x.L = append([]api.Node{{Op: 77}}, x.L...) },
		} {
			other, within := copied(n), block(num(1), copied(n))
			change(&other)
			change(&within.L[1])
			if jtree.Same(n, other) || jtree.Same(other, n) || jtree.Same(block(num(1), n), within) || jtree.Same(within, block(num(1), n)) {
				t.Errorf("%+v is the same as %+v", n, other)
			}
		}
	}
	if !jtree.Same(api.Node{L: []api.Node{}}, api.Node{}) || !jtree.Same(block(block()), block(api.Node{Op: api.SBlock, L: []api.Node{}})) {
		t.Error("nil and empty are not the same")
	}
	if jtree.Same(block(id("a"), id("b")), block(id("b"), id("a"))) {
		t.Error("order makes no difference")
	}
}

// walked is what Walk calls yield with, and what the trees are by their operations and texts.
func walked(p api.Node, most int) ([]api.Node, string) {
	var l []api.Node
	var words []string
	jtree.Walk(p, func(n api.Node) bool {
		l = append(l, n)
		words = append(words, strconv.Itoa(n.Op)+n.S)
		return len(l) < most
	})
	return l, strings.Join(words, " ")
}

// P3.2: Walk meets a tree, then its parts, in order, each followed by its own.
func TestWalk(t *testing.T) {
	p := block(expr(bin("+", id("a"), neg(id("b")))), node(api.SFunc, "f", function("c d", node(api.SRet, ""))...), block(), node(-4, "x", node(0, "y"), api.Node{N: 3, L: []api.Node{id("z")}}))
	want := "32 31 18+ 1a 20 1b 41f 1c 1d 32 36 32 -4x 0y 0 1z"
	all, words := walked(p, math.MaxInt)
	if words != want {
		t.Errorf("%q", words)
	}
	for most := 1; most <= len(all); most++ {
		if got, _ := walked(p, most); len(got) != most || !jtree.Same(block(got...), block(all[:most]...)) {
			t.Errorf("up to %d: %d", most, len(got))
		}
	}
	if all[14].N != 3 || !jtree.Same(all[0], p) {
		t.Error(all)
	}
	for range 2 { // from its beginning each time
		if _, again := walked(p, math.MaxInt); again != want {
			t.Errorf("%q", again)
		}
	}
}

// preorder is what Walk should meet.
func preorder(n api.Node) []api.Node {
	l := []api.Node{n}
	for _, part := range n.L {
		l = append(l, preorder(part)...)
	}
	return l
}

func TestWalkAnyTree(t *testing.T) {
	for i, n := range anyTrees() {
		n = lined(n, i)
		got, _ := walked(n, math.MaxInt)
		equal := slices.EqualFunc(got, preorder(n), func(a, b api.Node) bool { return jtree.Same(a, b) && a.Line == b.Line })
		if !equal {
			t.Errorf("%+v: %+v", n, got)
		}
	}
	if got, _ := walked(endless(5), 1000); len(got) != 1000 {
		t.Error(len(got))
	}
	jtree.Walk(block(), nil)
}

// exprsOver are the expressions whose parts are of a list.
func exprsOver(l []api.Node) []api.Node {
	var out []api.Node
	for _, x := range l {
		out = append(out, mem(x, "p"), mem(x, "if"), node(api.XNot, "", x), neg(x), obj(pair("p", x)), obj(pair("p", x), pair("", x)),
			node(api.XCall, "", x), node(api.XNew, "", x), node(api.XFun, "", function("", expr(x))...), node(api.XFun, "a", function("a", node(api.SRet, "", x))...))
		for _, y := range l {
			out = append(out, idx(x, y), node(api.XCall, "", x, y), node(api.XNew, "", x, y), bin("+", x, y), bin("-", x, y), bin("<", x, y), bin("<=", x, y), bin("===", x, y), node(api.XAnd, "", x, y), node(api.XOr, "", x, y), node(api.XCond, "", x, y, x), set(x, y))
		}
	}
	return slices.DeleteFunc(out, func(x api.Node) bool { return !jtree.RightExpr(x) })
}

// statementsOver are statements of expressions, and of blocks, of a list.
func statementsOver(xs []api.Node, bs []api.Node) []api.Node {
	out := []api.Node{node(api.SVar, "a"), node(api.SVar, "b"), node(api.SRet, ""), leaf(api.SBreak), leaf(api.SCont)}
	for _, x := range xs {
		out = append(out, node(api.SVar, "a", x), expr(x), node(api.SRet, "", x), node(api.SThrow, "", x))
		for _, b := range bs {
			out = append(out, node(api.SIf, "", x, b), node(api.SWhile, "", x, b), node(api.SForIn, "a", x, b))
			for _, c := range bs {
				out = append(out, node(api.SIf, "", x, b, c))
			}
		}
	}
	for _, b := range bs {
		out = append(out, b, node(api.SFunc, "a", b), node(api.SFunc, "a", id("a"), b), node(api.SFunc, "a", id("a"), id("b"), b))
		for _, c := range bs {
			out = append(out, node(api.STry, "a", b, c))
		}
	}
	return out
}

// P3.3: unlike programs have unlike texts; and each text is one of tokens.
func TestUnlike(t *testing.T) {
	leaves := []api.Node{id("a"), id("b"), num(0), num(10), str(""), str("a"), str("\""), leaf(api.XTrue), leaf(api.XThis), leaf(api.XUndef), leaf(api.XInput), obj(), node(api.XFun, "", block())}
	xs := append(slices.Clone(leaves), exprsOver(leaves)...)
	xs = append(xs, exprsOver([]api.Node{id("a"), num(1), neg(num(1)), mem(id("a"), "p"), bin("+", id("a"), id("a")), node(api.XNew, "", id("a")), node(api.XCall, "", id("a")), obj(pair("p", num(1)))})...)
	bs := []api.Node{block(), block(expr(id("a"))), block(block()), block(expr(id("a")), expr(id("b"))), block(expr(id("a")), block()), block(block(expr(id("a"))))}
	few := []api.Node{id("a"), num(1), obj(), node(api.XFun, "", bs[1])}
	small := statementsOver(few, bs)
	var programs []api.Node
	for _, x := range xs {
		programs = append(programs, block(expr(x)))
	}
	for _, s := range small {
		programs = append(programs, block(s), block(block(s)), block(node(api.SFunc, "f", block(s))), block(expr(node(api.XFun, "", block(s)))))
		for _, r := range small[:40] {
			programs = append(programs, block(s, r))
		}
	}
	met := map[string]api.Node{}
	for _, p := range programs {
		s, e := jtree.Show(p)
		if was, ok := met[s]; e != api.OK || ok && !jtree.Same(was, p) {
			t.Fatalf("%+v has the text %q, %d, of %+v", p, s, e, was)
		}
		if _, line, e := jlex.Lex(s); line != 0 || e != api.OK {
			t.Fatalf("%q is lexed to %d, %d", s, line, e)
		}
		met[s] = p
	}
	t.Log(len(programs), len(met))
}

// P3.3: like ones have like texts, be their lines what they may.
func TestLikeTexts(t *testing.T) {
	for _, c := range expressions() {
		if s, e := jtree.ShowExpr(lined(c.n, 3)); s != c.s || e != api.OK {
			t.Errorf("%+v is %q, %d", c.n, s, e)
		}
	}
	for _, c := range statements() {
		if s, e := jtree.Show(lined(block(c.n), -9)); s != c.s || e != api.OK {
			t.Errorf("%+v is %q, %d", c.n, s, e)
		}
	}
}

// roomy is a tree whose lists have spare room, with trees in it.
func roomy(n api.Node) api.Node {
	var l []api.Node
	for _, part := range n.L {
		l = append(l, roomy(part))
	}
	n.L = append(l, id("spare"), node(-1, "spare"))[:len(l)]
	return n
}

// spares tells whether the spare room of all lists is as roomy left it.
func spares(n api.Node) bool {
	for _, part := range n.L {
		if !spares(part) {
			return false
		}
	}
	l := n.L[len(n.L) : len(n.L)+2]
	return jtree.Same(l[0], id("spare")) && jtree.Same(l[1], node(-1, "spare"))
}

// R3: no tree is written into, nor its spare room.
func TestTreesAreLeft(t *testing.T) {
	for _, n := range anyTrees() {
		r, was := roomy(n), copied(n)
		jtree.Right(r)
		jtree.RightExpr(r)
		jtree.Show(r)
		jtree.ShowExpr(r)
		jtree.Same(r, r)
		jtree.Walk(r, func(api.Node) bool { return true })
		if !jtree.Same(r, was) || !spares(r) {
			t.Errorf("%+v was changed to %+v", was, r)
		}
	}
}
