package jread_test

import (
	"strings"
	"testing"

	"gumshoe/api"
	"gumshoe/jread"
	"gumshoe/jtree"
)

// toldAgain asks for a program whose text, read, is that program.
func toldAgain(t *testing.T, l []api.Tok) {
	t.Helper()
	n, _, e := jread.Parse(l)
	if e != api.OK {
		t.Fatalf("%+v: %d", l, e)
	}
	s, e := jtree.Show(n)
	again, line, f := jread.Parse(lexed(t, s))
	if e != api.OK || f != api.OK || line != 0 || !jtree.Same(n, again) {
		t.Fatalf("%q is read as %+v, %d, %d", s, again, line, f)
	}
	if text, _ := jtree.Show(again); text != s {
		t.Fatalf("%q is told as %q", s, text)
	}
}

// dice picks trees, by a rule that is the same each time.
type dice uint32

func (d *dice) of(n int) int {
	*d = *d*1664525 + 1013904223
	return int(*d>>8) % n
}

func (d *dice) name() string {
	return []string{"a", "b", "$_9", "get", "set", "of", "x1"}[d.of(7)]
}

func (d *dice) text() string {
	return []string{"", "a", "if", "it's", "\"\\\n\t", "\x00\xff", "12", "get", "// /*"}[d.of(9)]
}

// many are up to so many trees.
func (d *dice) many(most int, one func(high int) api.Node, high int) []api.Node {
	var l []api.Node
	for range d.of(most + 1) {
		l = append(l, one(high))
	}
	return l
}

func (d *dice) param(int) api.Node {
	return id(append([]string{"eval", "arguments"}, d.name())[d.of(3)])
}

func (d *dice) block(high int) api.Node { return block(d.many(3, d.statement, high)...) }

func (d *dice) leaf() api.Node {
	switch op := 1 + d.of(9); op {
	case api.XId:
		return id(d.name())
	case api.XNum:
		return num([]int64{0, 1, 42, api.MaxNum}[d.of(4)])
	case api.XStr:
		return node(api.XStr, d.text())
	default:
		return node(op, "")
	}
}

func (d *dice) pair(high int) api.Node { return node(api.XPair, d.text(), d.expr(high)) }

// expr is an expression, at most so high but for functions' blocks.
func (d *dice) expr(high int) api.Node {
	if high == 0 {
		return d.leaf()
	}
	high--
	switch op := api.XFun + d.of(14); op {
	case api.XFun:
		return node(op, []string{"", "f", "eval"}[d.of(3)], append(d.many(3, d.param, 0), d.block(high))...)
	case api.XObj:
		return node(op, "", d.many(3, d.pair, high)...)
	case api.XMem:
		return node(op, []string{"p", "if", "eval", "with", "get"}[d.of(5)], d.expr(high))
	case api.XCall, api.XNew:
		return node(op, "", append([]api.Node{d.expr(high)}, d.many(3, d.expr, high)...)...)
	case api.XSet:
		target := []api.Node{id(d.name()), node(api.XMem, "p", d.expr(high)), node(api.XIdx, "", d.expr(high), d.expr(high))}[d.of(3)]
		return node(op, "", target, d.expr(high))
	case api.XBin:
		return node(op, []string{"+", "-", "*", "<", "<=", "===", "!=="}[d.of(7)], d.expr(high), d.expr(high))
	case api.XNot, api.XNeg:
		return node(op, "", d.expr(high))
	case api.XIdx, api.XAnd, api.XOr:
		return node(op, "", d.expr(high), d.expr(high))
	case api.XCond:
		return node(op, "", d.expr(high), d.expr(high), d.expr(high))
	}
	return d.leaf()
}

func (d *dice) statement(high int) api.Node {
	if high == 0 {
		return node([]int{api.SRet, api.SBreak, api.SCont}[d.of(3)], "")
	}
	high--
	switch op := api.SVar + d.of(12); op {
	case api.SVar:
		return node(op, d.name(), d.many(1, d.expr, high)...)
	case api.SRet:
		return node(op, "", d.many(1, d.expr, high)...)
	case api.SThrow:
		return node(op, "", d.expr(high))
	case api.SBlock:
		return d.block(high)
	case api.SIf:
		return node(op, "", append([]api.Node{d.expr(high), d.block(high)}, d.many(1, d.block, high)...)...)
	case api.SWhile:
		return node(op, "", d.expr(high), d.block(high))
	case api.SForIn:
		return node(op, "eval", d.expr(high), d.block(high))
	case api.STry:
		return node(op, "e", d.block(high), d.block(high))
	case api.SFunc:
		return node(op, "f", append(d.many(3, d.param, 0), d.block(high))...)
	}
	return expr(d.expr(high))
}

// P4.2: a program's text, read, is that program; an expression's that expression.
func TestTextIsRead(t *testing.T) {
	d := dice(3)
	for i := range 3000 {
		p := d.block(1 + i%4)
		s, e := jtree.Show(p)
		if e != api.OK {
			t.Fatalf("%+v is no right tree", p)
		}
		if n, line, e := jread.Parse(lexed(t, s)); e != api.OK || line != 0 || !jtree.Same(n, p) {
			t.Fatalf("%q is read as %+v, %d, %d", s, n, line, e)
		}
		x := d.expr(1 + i%4)
		s, _ = jtree.ShowExpr(x)
		if n, line, e := jread.ParseExpr(lexed(t, s)); e != api.OK || line != 0 || !jtree.Same(n, x) {
			t.Fatalf("%q is read as %+v, %d, %d", s, n, line, e)
		}
	}
}

// P4.2: the highest trees, and those with the most parts.
func TestGreatTreesAreRead(t *testing.T) {
	deep := id("a")
	for range 97 {
		deep = node(api.XNeg, "", deep)
	}
	blocks := block()
	for range 99 {
		blocks = block(blocks)
	}
	var names, pairs []api.Node
	for range api.MaxParts {
		names, pairs = append(names, id("a")), append(pairs, node(api.XPair, "p", num(1)))
	}
	fun := append(names[:api.MaxParts:api.MaxParts], block())
	for _, p := range []api.Node{
		block(expr(deep)), blocks, block(node(api.SFunc, "f", fun...)), block(expr(node(api.XFun, "", fun...))), block(expr(node(api.XObj, "", pairs...))), block(expr(node(api.XCall, "", names...))), block(expr(node(api.XNew, "", names...))),
	} {
		s, e := jtree.Show(p)
		if n, line, f := jread.Parse(lexed(t, s)); e != api.OK || f != api.OK || line != 0 || !jtree.Same(n, p) {
			t.Errorf("%.60q: %d, line %d, error %d", s, e, line, f)
		}
	}
}

// P4.2: a text that is read is told again by the tree's text; blanks, comments and brackets make no difference to it.
func TestTextIsToldAgain(t *testing.T) {
	for _, s := range []string{
		"", "a.b = c + 1", "var a; function f(b) { return a + b; }", "function F() { this.p = {} } var x = new F()", "f.call(null, 1, 2)", "var a = {p: {}}", "var a = {}; function f() { }",
		"for (var k in o) if (o[k] === null) continue\nelse break", "while (i < 10) i = i + 1", "try { throw {e: 1,} } catch (e) { x = e }", "x = function g(n) { return n <= 1 ? 1 : n * g(n - 1) }(input)", "a\n(b)\n.c\n= !d || -e && f",
		"if (a) ; else if (b) { } else function h() {}", "var f = function() { return\n1 }", "x = new (new a.b)(c)(d)[e]", "(a).b = ((c))", "{;;{}}",
	} {
		toldAgain(t, lexed(t, s))
		n, _, _ := jread.Parse(lexed(t, s))
		for _, other := range []string{strings.ReplaceAll(s, " ", " /* x */\t"), "// y\n" + strings.ReplaceAll(s, "(", "( "), s + "\n\n;"} {
			if m, line, e := jread.Parse(lexed(t, other)); e != api.OK || line != 0 || !jtree.Same(n, m) {
				t.Errorf("%q is read as %+v, %d, %d", other, m, line, e)
			}
		}
	}
}
