package jtree_test

import (
	"math"
	"slices"
	"strings"
	"testing"

	"gumshoe/api"
	"gumshoe/jtree"
)

func node(op int, s string, l ...api.Node) api.Node { return api.Node{Op: op, S: s, L: l} }

func id(s string) api.Node { return node(api.XId, s) }

func num(n int64) api.Node { return api.Node{Op: api.XNum, N: n} }

func str(s string) api.Node { return node(api.XStr, s) }

func leaf(op int) api.Node { return node(op, "") }

func mem(x api.Node, s string) api.Node { return node(api.XMem, s, x) }

func idx(x, y api.Node) api.Node { return node(api.XIdx, "", x, y) }

func obj(l ...api.Node) api.Node { return node(api.XObj, "", l...) }

func pair(s string, x api.Node) api.Node { return node(api.XPair, s, x) }

func bin(s string, x, y api.Node) api.Node { return node(api.XBin, s, x, y) }

func set(x, y api.Node) api.Node { return node(api.XSet, "", x, y) }

func neg(x api.Node) api.Node { return node(api.XNeg, "", x) }

func block(l ...api.Node) api.Node { return node(api.SBlock, "", l...) }

func expr(x api.Node) api.Node { return node(api.SExpr, "", x) }

// many is a list of the same tree, so many times.
func many(n int, x api.Node) []api.Node {
	var l []api.Node
	for range n {
		l = append(l, x)
	}
	return l
}

// function are the parts of a function of those parameters, and those statements.
func function(params string, l ...api.Node) []api.Node {
	var out []api.Node
	for _, s := range strings.Fields(params) {
		out = append(out, id(s))
	}
	return append(out, block(l...))
}

// copied is a tree that shares nothing with another one.
func copied(n api.Node) api.Node {
	n.L = slices.Clone(n.L)
	for i := range n.L {
		n.L[i] = copied(n.L[i])
	}
	return n
}

// lined is a tree with other lines.
func lined(n api.Node, line int) api.Node {
	n = copied(n)
	n.Line = line
	for i := range n.L {
		n.L[i] = lined(n.L[i], line+i+1)
	}
	return n
}

// wrongExpr asks for an expression that is none, by itself and within others.
func wrongExpr(t *testing.T, x api.Node) {
	t.Helper()
	for _, y := range []api.Node{x, neg(x), obj(pair("p", x)), bin("+", id("a"), x), node(api.XFun, "", function("", expr(x))...)} {
		if s, e := jtree.ShowExpr(y); jtree.RightExpr(y) || s != "" || e != api.ErrTree {
			t.Errorf("%+v is right: %q, %d", y, s, e)
		}
	}
	wrongStatement(t, expr(x))
}

// wrongStatement asks for a statement that is none, by itself and within others.
func wrongStatement(t *testing.T, n api.Node) {
	t.Helper()
	for _, p := range []api.Node{block(n), block(plain(), block(n)), block(node(api.SFunc, "f", function("a", n)...)), block(node(api.SWhile, "", id("a"), block(n, n)))} {
		if s, e := jtree.Show(p); jtree.Right(p) || s != "" || e != api.ErrTree {
			t.Errorf("%+v is right: %q, %d", p, s, e)
		}
	}
}

// plain is a statement that is right.
func plain() api.Node { return expr(id("a")) }

// shown is an expression, or a statement, and its text.
type shown struct {
	n api.Node
	s string
}

func expressions() []shown {
	a, b, c := id("a"), id("b"), id("c")
	fun := node(api.XFun, "", function("")...)
	return []shown{
		{a, "a"}, {id("$_9"), "$_9"}, {id("eval"), "eval"}, {id("get"), "get"}, {id(strings.Repeat("x", 5000)), strings.Repeat("x", 5000)},
		{num(0), "0"}, {num(42), "42"}, {num(api.MaxNum), "999999999999999"},
		{str(""), `""`}, {str("it's \"\\\n\x00\xff"), `"it's \"\\\n\x00\xff"`},
		{leaf(api.XTrue), "true"}, {leaf(api.XFalse), "false"}, {leaf(api.XNull), "null"},
		{leaf(api.XUndef), "undefined"}, {leaf(api.XThis), "this"}, {leaf(api.XInput), "input"},
		{fun, "(function() {\n})"},
		{node(api.XFun, "f", function("a b c")...), "(function f(a, b, c) {\n})"},
		{node(api.XFun, "", function("a a", plain(), block(plain()))...), "(function(a, a) {\n  a;\n  {\n    a;\n  }\n})"},
		{node(api.XFun, "", function("", node(api.SRet, "", node(api.XFun, "g", function("", plain())...)))...), "(function() {\n  return (function g() {\n    a;\n  });\n})"},
		{obj(), "({})"}, {obj(pair("p", a)), `({"p": a})`}, {obj(pair("", a), pair("p", obj()), pair("p", b), pair("if\n", c)), `({"": a, "p": ({}), "p": b, "if\n": c})`},
		{mem(a, "p"), "a.p"}, {mem(a, "if"), "a.if"}, {mem(mem(a, "this"), "q"), "a.this.q"}, {mem(obj(), "p"), "({}).p"}, {mem(str("x"), "p"), `"x".p`},
		{mem(num(1), "p"), "(1).p"}, {mem(mem(num(0), "p"), "q"), "(0).p.q"}, {mem(neg(num(1)), "p"), "(-1).p"}, {mem(fun, "call"), "(function() {\n}).call"},
		{idx(a, b), "a[b]"}, {idx(num(1), num(2)), "1[2]"}, {idx(idx(a, b), set(a, c)), "a[b][(a = c)]"}, {mem(idx(num(1), a), "p"), "1[a].p"},
		{node(api.XCall, "", a), "a()"}, {node(api.XCall, "", a, b), "a(b)"}, {node(api.XCall, "", mem(a, "p"), b, num(1), obj()), "a.p(b, 1, ({}))"},
		{node(api.XCall, "", fun, a), "(function() {\n})(a)"}, {node(api.XCall, "", node(api.XCall, "", num(1))), "1()()"},
		{node(api.XNew, "", a), "(new a())"}, {node(api.XNew, "", a, b, c), "(new a(b, c))"}, {node(api.XNew, "", mem(a, "p"), b), "(new (a.p)(b))"},
		{node(api.XNew, "", fun), "(new ((function() {\n}))())"}, {node(api.XNew, "", node(api.XNew, "", a)), "(new ((new a()))())"},
		{node(api.XNew, "", leaf(api.XThis)), "(new (this)())"}, {node(api.XNew, "", num(1), a), "(new (1)(a))"},
		{set(a, b), "(a = b)"}, {set(mem(a, "p"), set(b, c)), "(a.p = (b = c))"}, {set(idx(a, b), obj()), "(a[b] = ({}))"},
		{bin("+", a, b), "(a + b)"}, {bin("-", a, b), "(a - b)"}, {bin("*", a, b), "(a * b)"}, {bin("<", a, b), "(a < b)"},
		{bin("<=", a, b), "(a <= b)"}, {bin("===", a, b), "(a === b)"}, {bin("!==", a, b), "(a !== b)"},
		{bin("+", a, neg(num(1))), "(a + (-1))"}, {bin("-", neg(neg(a)), bin("*", b, c)), "((-(-a)) - (b * c))"},
		{node(api.XNot, "", a), "(!a)"}, {neg(a), "(-a)"}, {neg(num(0)), "(-0)"},
		{node(api.XAnd, "", a, b), "(a && b)"}, {node(api.XOr, "", a, node(api.XAnd, "", b, c)), "(a || (b && c))"},
		{node(api.XCond, "", a, b, node(api.XCond, "", c, a, b)), "(a ? b : (c ? a : b))"},
	}
}

func statements() []shown {
	a, b := id("a"), id("b")
	one, two := block(expr(a)), block(expr(b), expr(a))
	return []shown{
		{node(api.SVar, "a"), "var a;\n"}, {node(api.SVar, "a", b), "var a = b;\n"}, {node(api.SVar, "a", set(a, b)), "var a = (a = b);\n"},
		{expr(a), "a;\n"}, {expr(set(mem(a, "p"), obj())), "(a.p = ({}));\n"}, {expr(set(mem(a, "b"), bin("+", id("c"), num(1)))), "(a.b = (c + 1));\n"},
		{expr(obj()), "({});\n"}, {expr(mem(obj(), "p")), "({}).p;\n"}, {expr(node(api.XFun, "f", function("")...)), "(function f() {\n});\n"},
		{expr(node(api.XCall, "", node(api.XFun, "", function("", expr(b))...), a)), "(function() {\n  b;\n})(a);\n"},
		{block(), "{\n}\n"}, {one, "{\n  a;\n}\n"}, {block(block(), block(one)), "{\n  {\n  }\n  {\n    {\n      a;\n    }\n  }\n}\n"},
		{node(api.SIf, "", a, one), "if (a) {\n  a;\n}\n"}, {node(api.SIf, "", a, block()), "if (a) {\n}\n"},
		{node(api.SIf, "", bin("<", a, b), two, one), "if ((a < b)) {\n  b;\n  a;\n} else {\n  a;\n}\n"}, {node(api.SIf, "", a, block(), block()), "if (a) {\n} else {\n}\n"},
		{node(api.SIf, "", a, one, block(node(api.SIf, "", b, one, two))), "if (a) {\n  a;\n} else {\n  if (b) {\n    a;\n  } else {\n    b;\n    a;\n  }\n}\n"},
		{node(api.SWhile, "", a, two), "while (a) {\n  b;\n  a;\n}\n"}, {node(api.SWhile, "", leaf(api.XTrue), block(leaf(api.SBreak), leaf(api.SCont))), "while (true) {\n  break;\n  continue;\n}\n"},
		{node(api.SForIn, "k", a, one), "for (var k in a) {\n  a;\n}\n"}, {node(api.SForIn, "k", obj(), block()), "for (var k in ({})) {\n}\n"},
		{node(api.SRet, ""), "return;\n"}, {node(api.SRet, "", a), "return a;\n"}, {node(api.SRet, "", obj()), "return ({});\n"},
		{node(api.SThrow, "", a), "throw a;\n"}, {node(api.SThrow, "", str("e")), "throw \"e\";\n"},
		{node(api.STry, "e", one, two), "try {\n  a;\n} catch (e) {\n  b;\n  a;\n}\n"}, {node(api.STry, "e", block(), block()), "try {\n} catch (e) {\n}\n"},
		{leaf(api.SBreak), "break;\n"}, {leaf(api.SCont), "continue;\n"},
		{node(api.SFunc, "f", function("")...), "function f() {\n}\n"}, {node(api.SFunc, "f", function("a b", node(api.SRet, "", a))...), "function f(a, b) {\n  return a;\n}\n"},
		{node(api.SFunc, "f", function("", node(api.SFunc, "g", function("", expr(a))...))...), "function f() {\n  function g() {\n    a;\n  }\n}\n"},
	}
}

// indented is a text of lines, two blanks further in.
func indented(s string) string {
	return "  " + strings.ReplaceAll(strings.TrimSuffix(s, "\n"), "\n", "\n  ") + "\n"
}

// P3.1: expressions, by themselves, and as far in as the line that they stand in.
func TestShowExpr(t *testing.T) {
	for _, c := range expressions() {
		if s, e := jtree.ShowExpr(c.n); s != c.s || e != api.OK || !jtree.RightExpr(c.n) || jtree.Right(c.n) {
			t.Errorf("%+v is %q, %d, not %q", c.n, s, e, c.s)
		}
		if s, e := jtree.Show(block(expr(c.n))); s != c.s+";\n" || e != api.OK {
			t.Errorf("%+v is %q, %d, as a statement", c.n, s, e)
		}
		want := "{\n  {\n" + indented(indented("var x = "+c.s+";\n")) + "  }\n}\n"
		if s, e := jtree.Show(block(block(block(node(api.SVar, "x", c.n))))); s != want || e != api.OK {
			t.Errorf("%+v is %q, %d, within blocks, not %q", c.n, s, e, want)
		}
	}
}

// P3.1: statements, by themselves, behind each other, and within others.
func TestShow(t *testing.T) {
	var all []api.Node
	text := ""
	for _, c := range statements() {
		if s, e := jtree.Show(block(c.n)); s != c.s || e != api.OK || !jtree.Right(block(c.n)) || jtree.RightExpr(c.n) {
			t.Errorf("%+v is %q, %d, not %q", c.n, s, e, c.s)
		}
		fun := node(api.XFun, "", function("", c.n)...)
		if s, e := jtree.ShowExpr(idx(fun, fun)); s != "(function() {\n"+indented(c.s)+"})[(function() {\n"+indented(c.s)+"})]" || e != api.OK {
			t.Errorf("%+v is %q, %d, within functions", c.n, s, e)
		}
		all, text = append(all, c.n), text+c.s
	}
	if s, e := jtree.Show(block(all...)); s != text || e != api.OK {
		t.Errorf("all is %q, %d", s, e)
	}
	if s, e := jtree.Show(block()); s != "" || e != api.OK {
		t.Errorf("nothing is %q, %d", s, e)
	}
}

// P3.1: what is no program, what is no expression.
func TestNeither(t *testing.T) {
	for _, c := range statements() {
		if s, e := jtree.ShowExpr(c.n); s != "" || e != api.ErrTree {
			t.Errorf("%+v is an expression: %q, %d", c.n, s, e)
		}
		if s, e := jtree.Show(c.n); c.n.Op != api.SBlock && (jtree.Right(c.n) || s != "" || e != api.ErrTree) {
			t.Errorf("%+v is a program: %q, %d", c.n, s, e)
		}
	}
	wrongExpr(t, pair("p", id("a")))
	wrongStatement(t, id("a"))
	wrongStatement(t, pair("p", id("a")))
	if s, e := jtree.Show(id("a")); s != "" || e != api.ErrTree {
		t.Error(s, e)
	}
}

// P3.1: operations that there are none of.
func TestNoOperation(t *testing.T) {
	for _, op := range []int{math.MinInt, -1, 0, 24, 25, 29, 42, 43, 100, math.MaxInt} {
		for _, n := range []api.Node{node(op, ""), node(op, "a"), node(op, "", id("a")), node(op, "", id("a"), block())} {
			wrongExpr(t, n)
			wrongStatement(t, n)
		}
	}
	wrongExpr(t, api.Node{})
	wrongStatement(t, api.Node{})
}

// P3.1: texts and numbers where they may not be, or not such ones; Line may be anything.
func TestFields(t *testing.T) {
	all := append(expressions(), statements()...)
	for _, c := range all {
		wrong := wrongExpr
		if c.n.Op >= api.SVar {
			wrong = wrongStatement
		}
		for _, n := range []int64{1, -1, math.MinInt64, math.MaxInt64, api.MaxNum + 1} {
			if c.n.Op == api.XNum && n == 1 {
				continue
			}
			x := copied(c.n)
			x.N = n
			wrong(t, x)
		}
		for _, s := range []string{"+ ", "a b", "9", "\x00", "é"} {
			x := copied(c.n)
			x.S = s
			if c.n.Op != api.XStr {
				wrong(t, x)
			}
		}
		x := copied(c.n)
		x.Line = math.MinInt
		if s, e := jtree.Show(block(expr(x))); c.n.Op < api.SVar && (s != c.s+";\n" || e != api.OK) {
			t.Errorf("%+v is %q, %d", x, s, e)
		}
	}
	for _, c := range all {
		x := copied(c.n)
		if x.S == "" && c.n.Op != api.XStr && c.n.Op != api.XFun {
			x.S = "a"
			if c.n.Op < api.SVar {
				wrongExpr(t, x)
			} else {
				wrongStatement(t, x)
			}
		}
	}
}

// P3.1: names, words, signs.
func TestTexts(t *testing.T) {
	a := id("a")
	for _, s := range []string{"", "if", "null", "input", "1a", "a.b", "a\n"} {
		wrongExpr(t, id(s))
		wrongExpr(t, node(api.XFun, "", id(s), block()))
		wrongStatement(t, node(api.SVar, s))
		wrongStatement(t, node(api.SForIn, s, a, block()))
		wrongStatement(t, node(api.STry, s, block(), block()))
		wrongStatement(t, node(api.SFunc, s, block()))
		if s != "" {
			wrongExpr(t, node(api.XFun, s, block()))
		}
	}
	for _, s := range []string{"", "1", "a b", "if ", "+", "\""} {
		wrongExpr(t, mem(a, s))
	}
	for _, s := range []string{"", "/", "=", "!", "&&", "||", "==", ">", "< ", "a", "<==", "+-"} {
		wrongExpr(t, bin(s, a, a))
	}
	for _, w := range strings.Fields("break case catch continue debugger default delete do else finally for function if in instanceof new return switch this throw try typeof var void while with null true false undefined input") {
		if s, e := jtree.ShowExpr(mem(a, w)); s != "a."+w || e != api.OK {
			t.Error(w, s, e)
		}
	}
	for b := range 256 {
		s := string([]byte{byte(b)})
		if !jtree.RightExpr(str(s)) || !jtree.RightExpr(obj(pair(s, a))) {
			t.Errorf("%q is refused", s)
		}
	}
}

// P3.1: how many parts each operation has.
func TestCounts(t *testing.T) {
	a := id("a")
	counts := []struct {
		op    int
		s     string
		parts []api.Node
		right []int
	}{
		{api.XId, "a", many(3, a), []int{0}},
		{api.XNum, "", many(3, a), []int{0}},
		{api.XStr, "", many(3, a), []int{0}},
		{api.XTrue, "", many(3, a), []int{0}},
		{api.XFalse, "", many(3, a), []int{0}},
		{api.XNull, "", many(3, a), []int{0}},
		{api.XUndef, "", many(3, a), []int{0}},
		{api.XThis, "", many(3, a), []int{0}},
		{api.XInput, "", many(3, a), []int{0}},
		{api.XFun, "", []api.Node{block(), block()}, []int{1}},
		{api.XObj, "", many(3, pair("p", a)), []int{0, 1, 2, 3}},
		{api.XMem, "p", many(3, a), []int{1}},
		{api.XIdx, "", many(4, a), []int{2}},
		{api.XCall, "", many(4, a), []int{1, 2, 3, 4}},
		{api.XNew, "", many(4, a), []int{1, 2, 3, 4}},
		{api.XSet, "", many(4, a), []int{2}},
		{api.XBin, "+", many(4, a), []int{2}},
		{api.XNot, "", many(4, a), []int{1}},
		{api.XNeg, "", many(4, a), []int{1}},
		{api.XAnd, "", many(4, a), []int{2}},
		{api.XOr, "", many(4, a), []int{2}},
		{api.XCond, "", many(5, a), []int{3}},
		{api.SVar, "a", many(3, a), []int{0, 1}},
		{api.SExpr, "", many(3, a), []int{1}},
		{api.SBlock, "", many(4, leaf(api.SBreak)), []int{0, 1, 2, 3, 4}},
		{api.SIf, "", append([]api.Node{a}, many(4, block())...), []int{2, 3}},
		{api.SWhile, "", append([]api.Node{a}, many(3, block())...), []int{2}},
		{api.SForIn, "k", append([]api.Node{a}, many(3, block())...), []int{2}},
		{api.SRet, "", many(3, a), []int{0, 1}},
		{api.SThrow, "", many(3, a), []int{1}},
		{api.STry, "e", many(4, block()), []int{2}},
		{api.SBreak, "", many(3, a), []int{0}},
		{api.SCont, "", many(3, a), []int{0}},
		{api.SFunc, "f", []api.Node{block(), block()}, []int{1}},
	}
	for _, c := range counts {
		for n := range len(c.parts) + 1 {
			p := block(node(c.op, c.s, c.parts[:n]...))
			if c.op < api.SVar {
				p = block(expr(p.L[0]))
			}
			if jtree.Right(p) != slices.Contains(c.right, n) {
				t.Errorf("%d with %d parts", c.op, n)
			}
		}
	}
	for _, n := range []int{0, 2, 3} {
		wrongExpr(t, obj(pair("p", a), node(api.XPair, "p", many(n, a)...)))
	}
}

// P3.1: which parts each operation has: in each place, each kind.
func TestParts(t *testing.T) {
	kinds := []api.Node{id("a"), mem(id("a"), "p"), idx(id("a"), num(1)), num(1), obj(), pair("p", id("a")), block(), node(api.SRet, ""), expr(id("a"))}
	const exprs, targets, name, pairs, blocks, stmts = "012 34", "012", "0", "5", "6", "678"
	for _, c := range []struct {
		op    int
		s     string
		parts []string
	}{
		{api.XFun, "", []string{name, name, blocks}}, {api.SFunc, "f", []string{name, name, blocks}}, {api.XFun, "f", []string{blocks}},
		{api.XObj, "", []string{pairs, pairs}}, {api.XMem, "p", []string{exprs}}, {api.XIdx, "", []string{exprs, exprs}},
		{api.XCall, "", []string{exprs, exprs}}, {api.XNew, "", []string{exprs, exprs}}, {api.XSet, "", []string{targets, exprs}},
		{api.XBin, "+", []string{exprs, exprs}}, {api.XNot, "", []string{exprs}}, {api.XNeg, "", []string{exprs}},
		{api.XAnd, "", []string{exprs, exprs}}, {api.XOr, "", []string{exprs, exprs}}, {api.XCond, "", []string{exprs, exprs, exprs}},
		{api.SVar, "a", []string{exprs}}, {api.SExpr, "", []string{exprs}}, {api.SBlock, "", []string{stmts, stmts, stmts}},
		{api.SIf, "", []string{exprs, blocks}}, {api.SIf, "", []string{exprs, blocks, blocks}}, {api.SWhile, "", []string{exprs, blocks}},
		{api.SForIn, "k", []string{exprs, blocks}}, {api.SRet, "", []string{exprs}}, {api.SThrow, "", []string{exprs}}, {api.STry, "e", []string{blocks, blocks}},
	} {
		for i := range c.parts {
			for k, kind := range kinds {
				n := node(c.op, c.s)
				for _, may := range c.parts {
					n.L = append(n.L, kinds[may[0]-'0'])
				}
				n.L[i] = kind
				p := block(n)
				if c.op < api.SVar {
					p = block(expr(n))
				}
				if jtree.Right(p) != strings.Contains(c.parts[i], string(rune('0'+k))) {
					t.Errorf("%d with %d at %d", c.op, kind.Op, i)
				}
			}
		}
	}
}

// P3.1: the most parts that there may be.
func TestManyParts(t *testing.T) {
	a := id("a")
	for _, c := range []struct {
		n    int
		want bool
	}{{api.MaxParts - 1, true}, {api.MaxParts, true}, {api.MaxParts + 1, false}, {api.MaxParts + 2, false}, {5000, false}} {
		params := append(many(c.n, a), block())
		for _, x := range []api.Node{node(api.XFun, "", params...), obj(many(c.n, pair("p", a))...), node(api.XCall, "", many(c.n, a)...), node(api.XNew, "", many(c.n, a)...)} {
			if jtree.RightExpr(x) != c.want {
				t.Errorf("%d with %d", x.Op, c.n)
			}
		}
		if jtree.Right(block(node(api.SFunc, "f", params...))) != c.want {
			t.Errorf("SFunc with %d", c.n)
		}
	}
	if s, e := jtree.Show(block(many(5000, expr(a))...)); s != strings.Repeat("a;\n", 5000) || e != api.OK {
		t.Error(len(s), e)
	}
}

// P3.1: how high a tree may be.
func TestHigh(t *testing.T) {
	for _, side := range []func(x api.Node) api.Node{
		neg,
		func(x api.Node) api.Node { return bin("+", x, num(1)) },
		func(x api.Node) api.Node { return bin("+", num(1), x) },
		func(x api.Node) api.Node { return node(api.XCond, "", num(1), num(2), x) },
	} {
		x := id("a")
		for high := 1; high < 110; high++ {
			s, e := jtree.ShowExpr(x)
			if want := high <= api.MaxHigh; jtree.RightExpr(x) != want || (e == api.OK) != want || (s == "") == want {
				t.Errorf("%d high: %q, %d", high, s, e)
			}
			if want := high+2 <= api.MaxHigh; jtree.Right(block(expr(x))) != want {
				t.Errorf("%d high, in a program", high)
			}
			x = side(x)
		}
	}
	p := block()
	for high := 1; high < 110; high++ {
		s, e := jtree.Show(p)
		if want := high <= api.MaxHigh; jtree.Right(p) != want || (e == api.OK) != want || want && len(strings.Fields(s)) != 2*(high-1) {
			t.Errorf("%d high: %q, %d", high, s, e)
		}
		p = block(p)
	}
}

// endless is a tree that stands within itself.
func endless(op int) api.Node {
	l := []api.Node{node(op, ""), node(op, "")}
	l[0].L, l[1].L = l[:1], l
	return node(op, "", l...)
}

// R1: trees of any depth, or without an end, are refused.
func TestDeep(t *testing.T) {
	x, p := id("a"), block()
	for range 60000 {
		x, p = neg(x), block(p)
	}
	for _, n := range []api.Node{x, endless(api.XAnd), endless(api.XNew)} {
		if s, e := jtree.ShowExpr(n); jtree.RightExpr(n) || s != "" || e != api.ErrTree {
			t.Error(s, e)
		}
	}
	for _, n := range []api.Node{p, endless(api.SBlock)} {
		if s, e := jtree.Show(n); jtree.Right(n) || s != "" || e != api.ErrTree {
			t.Error(s, e)
		}
	}
	if !jtree.Same(x, copied(x)) || jtree.Same(x, neg(x)) || jtree.Same(neg(x), x) {
		t.Error("Same of deep trees")
	}
	count := 0
	jtree.Walk(x, func(api.Node) bool {
		count++
		return true
	})
	if count != 60001 {
		t.Error(count)
	}
}
