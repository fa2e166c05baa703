package jread_test

import (
	"slices"
	"strconv"
	"strings"
	"testing"

	"gumshoe/api"
	"gumshoe/jlex"
	"gumshoe/jread"
	"gumshoe/jtree"
)

func node(op int, s string, l ...api.Node) api.Node { return api.Node{Op: op, S: s, L: l} }

func id(s string) api.Node { return node(api.XId, s) }

func num(n int64) api.Node { return api.Node{Op: api.XNum, N: n} }

func block(l ...api.Node) api.Node { return node(api.SBlock, "", l...) }

func expr(x api.Node) api.Node { return node(api.SExpr, "", x) }

// lexed are a text's tokens.
func lexed(t *testing.T, s string) []api.Tok {
	t.Helper()
	l, _, e := jlex.Lex(s)
	if e != api.OK {
		t.Fatalf("%q has no tokens: %d", s, e)
	}
	return l
}

// told is a program's text, or an expression's, as the reader reads it.
func told(t *testing.T, s string, parse func(l []api.Tok) (api.Node, int, api.Errno), show func(n api.Node) (string, api.Errno)) string {
	t.Helper()
	n, line, e := parse(lexed(t, s))
	if line != 0 || e != api.OK {
		t.Errorf("%q: line %d, error %d", s, line, e)
		return ""
	}
	text, e := show(n)
	if e != api.OK {
		t.Errorf("%q: %+v is no right tree", s, n)
	}
	return text
}

// reads asks for what an expression is, by itself and as a statement.
func reads(t *testing.T, s string, want string) {
	t.Helper()
	if got := told(t, s, jread.ParseExpr, jtree.ShowExpr); got != want {
		t.Errorf("%q is %s, not %s", s, got, want)
	}
	if got := told(t, "x = "+s+";", jread.Parse, jtree.Show); got != "(x = "+want+");\n" {
		t.Errorf("%q, as a statement, is %s", s, got)
	}
}

// does asks for what a program is, by itself and within a function.
func does(t *testing.T, s string, want string) {
	t.Helper()
	if got := told(t, s, jread.Parse, jtree.Show); got != want {
		t.Errorf("%q is %s, not %s", s, got, want)
	}
	within := "function f() {\n"
	for _, line := range strings.SplitAfter(want, "\n") {
		if line != "" {
			within += "  " + line
		}
	}
	if got := told(t, "function f() {"+s+"}", jread.Parse, jtree.Show); got != within+"}\n" {
		t.Errorf("%q, within a function, is %s", s, got)
	}
}

// P4.1: the chapter's examples, as trees.
func TestExamples(t *testing.T) {
	n, line, e := jread.Parse(lexed(t, "a.b = c + 1"))
	sum := node(api.XBin, "+", id("c"), num(1))
	if want := block(expr(node(api.XSet, "", node(api.XMem, "b", id("a")), sum))); !jtree.Same(n, want) || line != 0 || e != api.OK {
		t.Errorf("%+v, %d, %d", n, line, e)
	}
	refuses(t, "@with (a) b", api.ErrWith)
	refuses(t, "x = @/a/", api.ErrRegex)
	refuses(t, "a@: b", api.ErrLabel)
	refuses(t, "@eval(1)", api.ErrEval)
	refuses(t, "a @b", api.ErrParse)
}

// P4.1: trees of all kinds, with all that they have.
func TestTrees(t *testing.T) {
	fun := func(op int, name string) api.Node {
		return node(op, name, id("a"), id("b"), block(node(api.SRet, "", id("a"))))
	}
	leaf := func(op int) api.Node { return node(op, "") }
	for s, want := range map[string]api.Node{
		"a": id("a"), "12": num(12), "999999999999999": num(api.MaxNum), `'a\n'`: node(api.XStr, "a\n"), `""`: leaf(api.XStr),
		"true": leaf(api.XTrue), "false": leaf(api.XFalse), "null": leaf(api.XNull), "undefined": leaf(api.XUndef), "this": leaf(api.XThis), "input": leaf(api.XInput),
		"function (a, b) { return a }": fun(api.XFun, ""), "function f(a, b) { return a; }": fun(api.XFun, "f"), "function() { }": node(api.XFun, "", block()),
		"{}": leaf(api.XObj), "{a: 1, 'b': c,}": node(api.XObj, "", node(api.XPair, "a", num(1)), node(api.XPair, "b", id("c"))),
		"a.b": node(api.XMem, "b", id("a")), "a[1]": node(api.XIdx, "", id("a"), num(1)), "a()": node(api.XCall, "", id("a")), "a(b, 1)": node(api.XCall, "", id("a"), id("b"), num(1)),
		"new a": node(api.XNew, "", id("a")), "new a(b, 1)": node(api.XNew, "", id("a"), id("b"), num(1)), "a = 1": node(api.XSet, "", id("a"), num(1)),
		"a === 1": node(api.XBin, "===", id("a"), num(1)), "!a": node(api.XNot, "", id("a")), "-a": node(api.XNeg, "", id("a")),
		"a && b": node(api.XAnd, "", id("a"), id("b")), "a || b": node(api.XOr, "", id("a"), id("b")), "a ? b : 1": node(api.XCond, "", id("a"), id("b"), num(1)),
	} {
		if n, line, e := jread.ParseExpr(lexed(t, s)); !jtree.Same(n, want) || line != 0 || e != api.OK {
			t.Errorf("%q is %+v, %d, %d", s, n, line, e)
		}
	}
	a, one := id("a"), block(expr(id("b")))
	for s, want := range map[string]api.Node{
		"var a": node(api.SVar, "a"), "var a = b;": node(api.SVar, "a", id("b")), "a": expr(a), "{ b }": one, "{}": block(), "{;}": block(),
		"if (a) b": node(api.SIf, "", a, one), "if (a) b; else {}": node(api.SIf, "", a, one, block()), "while (a) { b }": node(api.SWhile, "", a, one),
		"for (var k in a) b": node(api.SForIn, "k", a, one), "return": leaf(api.SRet), "return a": node(api.SRet, "", a), "throw a": node(api.SThrow, "", a),
		"try { b } catch (k) {}": node(api.STry, "k", one, block()), "break": leaf(api.SBreak), "continue": leaf(api.SCont), "function f(a, b) { return a }": fun(api.SFunc, "f"),
	} {
		if n, line, e := jread.Parse(lexed(t, s)); !jtree.Same(n, block(want)) || line != 0 || e != api.OK {
			t.Errorf("%q is %+v, %d, %d", s, n, line, e)
		}
	}
}

// P4.1: things, and chains of what stands behind them.
func TestChains(t *testing.T) {
	for s, want := range map[string]string{
		"(a)": "a", "((('b')))": `"b"`, "(a = b)": "(a = b)", "get": "get", "set": "set", "of": "of",
		"{a: 1, if: 2, 'x y': 3, 40: 5, \"\": 6}": `({"a": 1, "if": 2, "x y": 3, "40": 5, "": 6})`,
		"{a: b,}": `({"a": b})`, "{a: 1, a: 2}": `({"a": 1, "a": 2})`, "{a: b = {c: d ? e : f}}": `({"a": (b = ({"c": (d ? e : f)}))})`,
		"{get: 1, set: 2}": `({"get": 1, "set": 2})`, "{eval: 1, arguments: 2}": `({"eval": 1, "arguments": 2})`, "{with: 1, typeof: 2, true: 3}": `({"with": 1, "typeof": 2, "true": 3})`,
		"{'get': 1, 0: 2, 999999999999999: 3}":         `({"get": 1, "0": 2, "999999999999999": 3})`,
		"function eval(arguments, eval, arguments) {}": "(function eval(arguments, eval, arguments) {\n})",
		"a.b.c": "a.b.c", "a.if.eval.arguments.with.typeof.get": "a.if.eval.arguments.with.typeof.get", "a[b][c = d]": "a[b][(c = d)]", "a()()": "a()()", "a(b)(c, d = e)": "a(b)(c, (d = e))",
		"a.b(c)[d].e()": "a.b(c)[d].e()", "(a)(b)": "a(b)", "(a.b)(c)": "a.b(c)", "1 .p": "(1).p", "(1).p": "(1).p", "1[0](2)": "1[0](2)", "'x'.p": `"x".p`, "{}.p": "({}).p", "{a: 1}[b]": `({"a": 1})[b]`,
		"function() {}.call(a)": "(function() {\n}).call(a)", "function() {}()": "(function() {\n})()", "this.p": "this.p", "null.p": "null.p", "input[input]": "input[input]", "a\n.b\n(c)\n[d]": "a.b(c)[d]",
		"new a": "(new a())", "new a()": "(new a())", "new (a)": "(new a())", "new (a)(b)": "(new a(b))", "new a.b.c(d)": "(new (a.b.c)(d))", "new a.b": "(new (a.b)())", "new a.if(b)": "(new (a.if)(b))",
		"new a[b](c)(d)": "(new (a[b])(c))(d)", "new a().b": "(new a()).b", "new a.b().c": "(new (a.b)()).c", "new a.b[c].d(e)[f]": "(new (a.b[c].d)(e))[f]", "new (a())()": "(new (a())())",
		"new (a.b())": "(new (a.b())())", "new (new a)": "(new ((new a()))())", "new (new a(b))(c)": "(new ((new a(b)))(c))", "new function() {}(b)": "(new ((function() {\n}))(b))", "new {}": "(new (({}))())",
		"new this.p(a = b)": "(new (this.p)((a = b)))", "new a()()": "(new a())()", "new 1": "(new (1)())", "new a\n(b)": "(new a(b))", "new (a = b)": "(new ((a = b))())",
	} {
		reads(t, s, want)
	}
}

// P4.1: signs, choices, what is set.
func TestOperations(t *testing.T) {
	for s, want := range map[string]string{
		"!a": "(!a)", "-1": "(-1)", "!-!a": "(!(-(!a)))", "- -a": "(-(-a))", "-a.b": "(-a.b)", "!a()": "(!a())", "-new a": "(-(new a()))", "-(a + b)": "(-(a + b))", "-a * -b": "((-a) * (-b))", "a - -b": "(a - (-b))", "a--b": "(a - (-b))",
		"!a === b": "((!a) === b)", "a !== !b": "(a !== (!b))",
		"a - b - c": "((a - b) - c)", "a - (b - c)": "(a - (b - c))", "a * (b + c)": "(a * (b + c))", "(a) + (b)": "(a + b)", "a\n+ b": "(a + b)",
		"a || b && c || d":                       "((a || (b && c)) || d)",
		"a < b + c === d * e - f <= g && h || i": "((((a < (b + c)) === (((d * e) - f) <= g)) && h) || i)",
		"a || b && c === d < e + f * -g.h":       "(a || (b && (c === (d < (e + (f * (-g.h)))))))",
		"-a * b + c < d === e && f || g ? h : i": "((((((((-a) * b) + c) < d) === e) && f) || g) ? h : i)",
		"a ? b : c":                              "(a ? b : c)",
		"a ? b : c ? d : e":                      "(a ? b : (c ? d : e))",
		"a ? b ? c : d : e":                      "(a ? (b ? c : d) : e)",
		"(a ? b : c) ? d : e":                    "((a ? b : c) ? d : e)",
		"a || b ? c = d : e = f":                 "((a || b) ? (c = d) : (e = f))",
		"a ? b : c || d":                         "(a ? b : (c || d))",
		"a = b":                                  "(a = b)",
		"a = b = c.d = e[f] = g":                 "(a = (b = (c.d = (e[f] = g))))",
		"a = b ? c : d":                          "(a = (b ? c : d))",
		"a = b || c":                             "(a = (b || c))",
		"a[b = c] = d":                           "(a[(b = c)] = d)",
		"(a).b = c":                              "(a.b = c)",
		"(a)[b] = c":                             "(a[b] = c)",
		"(a.b).c = d":                            "(a.b.c = d)",
		"a().b = c":                              "(a().b = c)",
		"new a().b = c":                          "((new a()).b = c)",
		"new a.b()[c] = d":                       "((new (a.b)())[c] = d)",
		"1 .p = 2":                               "((1).p = 2)",
		"{}.p = a":                               "(({}).p = a)",
		"(a = b).c = d":                          "((a = b).c = d)",
		"(a + b).c = d":                          "((a + b).c = d)",
		"function() {}.p = 1":                    "((function() {\n}).p = 1)",
		"a.if = b":                               "(a.if = b)",
		"a\n=\nb":                                "(a = b)",
		"f(a = b, c = d)":                        "f((a = b), (c = d))",
		"((a.b = c))":                            "(a.b = c)",
		"a === b === c !== d":                    "(((a === b) === c) !== d)",
		"a < b <= c < d":                         "(((a < b) <= c) < d)",
		"a * b * c":                              "((a * b) * c)",
		"a && b && c":                            "((a && b) && c)",
		"a || b || c":                            "((a || b) || c)",
		"a && (b || c)":                          "(a && (b || c))",
		"function() { return a = b ? c : d + e }": "(function() {\n  return (a = (b ? c : (d + e)));\n})",
	} {
		reads(t, s, want)
	}
}

// P4.1: each two signs: the one that binds tighter is first, else the left one.
func TestTightness(t *testing.T) {
	levels := [][]string{{"||"}, {"&&"}, {"===", "!=="}, {"<", "<="}, {"+", "-"}, {"*"}}
	for i, one := range levels {
		for j, two := range levels {
			for _, p := range one {
				for _, q := range two {
					want := "((a " + p + " b) " + q + " c)"
					if j > i {
						want = "(a " + p + " (b " + q + " c))"
					}
					reads(t, "a "+p+" b "+q+" c", want)
				}
			}
		}
	}
}

// P4.1: statements, and what ends them.
func TestStatements(t *testing.T) {
	for s, want := range map[string]string{
		"": "", ";": "", ";;\n;": "", "a": "a;\n", "a;": "a;\n", ";a;;b;": "a;\nb;\n", "a\nb": "a;\nb;\n", "a;b": "a;\nb;\n", "a\n;b": "a;\nb;\n",
		"{}": "{\n}\n", "{a}": "{\n  a;\n}\n", "{a;b}c": "{\n  a;\n  b;\n}\nc;\n", "{}{}": "{\n}\n{\n}\n", "{;{}}": "{\n  {\n  }\n}\n", "{a}(b)": "{\n  a;\n}\nb;\n",
		"var a": "var a;\n", "var a;": "var a;\n", "var a = b": "var a = b;\n", "var a = b = c;": "var a = (b = c);\n", "var a\nvar b": "var a;\nvar b;\n", "var a\n= b": "var a = b;\n", "var a\n(b)": "var a;\nb;\n", "var eval = 1; var arguments": "var eval = 1;\nvar arguments;\n",
		"{var a}": "{\n  var a;\n}\n", "var a = {}\nb": "var a = ({});\nb;\n",
		"if (a) b": "if (a) {\n  b;\n}\n", "if (a) {b}": "if (a) {\n  b;\n}\n", "if (a);": "if (a) {\n}\n", "if (a) ;else;": "if (a) {\n} else {\n}\n", "if (a) {} else {}": "if (a) {\n} else {\n}\n",
		"if (a) b; else c": "if (a) {\n  b;\n} else {\n  c;\n}\n", "if (a) b\nelse c": "if (a) {\n  b;\n} else {\n  c;\n}\n", "if (a) b\n; else c": "if (a) {\n  b;\n} else {\n  c;\n}\n", "if (a) {b} else c": "if (a) {\n  b;\n} else {\n  c;\n}\n",
		"if (a) if (b) c; else d": "if (a) {\n  if (b) {\n    c;\n  } else {\n    d;\n  }\n}\n", "if (a) if (b) c; else d; else e": "if (a) {\n  if (b) {\n    c;\n  } else {\n    d;\n  }\n} else {\n  e;\n}\n",
		"if (a) b; else if (c) d; else e": "if (a) {\n  b;\n} else {\n  if (c) {\n    d;\n  } else {\n    e;\n  }\n}\n", "if (a) {if (b) c} else d": "if (a) {\n  if (b) {\n    c;\n  }\n} else {\n  d;\n}\n",
		"if (a = b) { {} }": "if ((a = b)) {\n  {\n  }\n}\n", "if (a) b; c": "if (a) {\n  b;\n}\nc;\n", "if (a) var b": "if (a) {\n  var b;\n}\n", "if (a) function f() {} else return": "if (a) {\n  function f() {\n  }\n} else {\n  return;\n}\n",
		"if (a) return\n; else b": "if (a) {\n  return;\n} else {\n  b;\n}\n", "if (a) {};b": "if (a) {\n}\nb;\n",
		"while (a) b": "while (a) {\n  b;\n}\n", "while (a);": "while (a) {\n}\n", "while (a) {b;c}": "while (a) {\n  b;\n  c;\n}\n", "while (a) while (b) c\nd": "while (a) {\n  while (b) {\n    c;\n  }\n}\nd;\n", "while (a) if (b) break; else continue": "while (a) {\n  if (b) {\n    break;\n  } else {\n    continue;\n  }\n}\n",
		"for (var k in a) b": "for (var k in a) {\n  b;\n}\n", "for (var k in a);": "for (var k in a) {\n}\n", "for (var eval in a = b) {k}": "for (var eval in (a = b)) {\n  k;\n}\n", "for\n(\nvar k\nin {}\n) k\nl": "for (var k in ({})) {\n  k;\n}\nl;\n",
		"return": "return;\n", "return;": "return;\n", "return a": "return a;\n", "return\na": "return;\na;\n", "return\n;a": "return;\na;\n", "{return}": "{\n  return;\n}\n", "return a\n+ b\nc": "return (a + b);\nc;\n", "return (\na)": "return a;\n", "return {}": "return ({});\n", "return function() {}": "return (function() {\n});\n", "return -a": "return (-a);\n", "return\n-a": "return;\n(-a);\n",
		"throw a": "throw a;\n", "throw a;b": "throw a;\nb;\n", "throw (\na\n)\nb": "throw a;\nb;\n", "throw {}": "throw ({});\n", "{throw a}": "{\n  throw a;\n}\n",
		"try {} catch (e) {}": "try {\n} catch (e) {\n}\n", "try {a} catch (eval) {b} c": "try {\n  a;\n} catch (eval) {\n  b;\n}\nc;\n", "try\n{}\ncatch\n(e)\n{}\n;": "try {\n} catch (e) {\n}\n",
		"break": "break;\n", "break;continue;": "break;\ncontinue;\n", "break\ncontinue\n": "break;\ncontinue;\n", "{break}": "{\n  break;\n}\n", "break\na": "break;\na;\n", "continue\n(a)": "continue;\na;\n",
		"function f() {}": "function f() {\n}\n", "function f(a) {} b": "function f(a) {\n}\nb;\n", "function f(a, b, a) {return a}": "function f(a, b, a) {\n  return a;\n}\n", "function eval(eval, arguments) {}": "function eval(eval, arguments) {\n}\n", "function f() {}\n(a)": "function f() {\n}\na;\n", "function f() {}-a": "function f() {\n}\n(-a);\n",
		"(function() {})": "(function() {\n});\n", "(function f() {})()": "(function f() {\n})();\n", "({})": "({});\n", "({}).p = 1": "(({}).p = 1);\n",
	} {
		does(t, s, want)
	}
}

// P4.1: an expression goes on over lines as long as it can; else a line's end is a statement's.
func TestLinesEndStatements(t *testing.T) {
	for s, want := range map[string]string{
		"a\n(b)": "a(b);\n", "a\n[b]": "a[b];\n", "a\n.b": "a.b;\n", "a\n-b": "(a - b);\n", "a\n* b": "(a * b);\n", "a\n= b": "(a = b);\n", "a\n? b\n: c": "(a ? b : c);\n", "a\n!== b": "(a !== b);\n", "a\n&& b": "(a && b);\n",
		"a\n!b": "a;\n(!b);\n", "a\n{b}": "a;\n{\n  b;\n}\n", "a\nnew b": "a;\n(new b());\n", "a\n'b'": "a;\n\"b\";\n", "a\n1": "a;\n1;\n", "a\nfunction f() {}": "a;\nfunction f() {\n}\n", "a = b\n{}": "(a = b);\n{\n}\n",
		"a = b\n(c).d = e": "(a = (b(c).d = e));\n", "a /*\n*/ b": "a;\nb;\n", "a // b\nc": "a;\nc;\n", "var a\nb = c": "var a;\n(b = c);\n", "a = function() {}\nb": "(a = (function() {\n}));\nb;\n", "a = function() {}\n(b)": "(a = (function() {\n})(b));\n",
	} {
		does(t, s, want)
	}
	refuses(t, "a @/**/ b", api.ErrParse)
	refuses(t, "x = 1 + a\n(b).c @= d", api.ErrParse)
	refuses(t, "-a\n(b).c @= d", api.ErrParse)
}

// lined are the lines of a tree's parts, with their operations, as Walk meets them.
func lined(n api.Node) string {
	var l []string
	jtree.Walk(n, func(n api.Node) bool {
		l = append(l, strconv.Itoa(n.Op)+"@"+strconv.Itoa(n.Line))
		return true
	})
	return strings.Join(l, " ")
}

// P4.1: the lines of statements.
func TestStatementLines(t *testing.T) {
	for s, want := range map[string]string{
		"": "32@0", "\n\n;": "32@3", "\na": "32@2 31@2 1@2", "\n;\na": "32@2 31@3 1@3", "\n\n//a": "32@0",
		"(\n\na)": "32@1 31@1 1@3", "(\n(\na\n)\n+\nb)": "32@1 31@1 18@3 1@3 1@6", "\n{\na\n}\nb": "32@2 32@2 31@3 1@3 31@5 1@5",
		"var\na\n=\nb": "32@1 30@1 1@4", "if\n(\na\n)\nb\nelse\nc": "32@1 33@1 1@3 32@5 31@5 1@5 32@7 31@7 1@7", "if\n(a)\n;\nelse\n{\nb\n}": "32@1 33@1 1@2 32@3 32@5 31@6 1@6",
		"\nwhile (a)\n\n(\nb)": "32@2 34@2 1@2 32@4 31@4 1@5", "while (a)\n;": "32@1 34@1 1@1 32@2", "for\n(var\nk in\na\n)\nb": "32@1 35@1 1@4 32@6 31@6 1@6",
		"\nreturn\n": "32@2 36@2", "return (\na)": "32@1 36@1 1@2", "throw (\na)": "32@1 37@1 1@2", "try\n{\na\n}\ncatch\n(e)\n{\nb\n}": "32@1 38@1 32@2 31@3 1@3 32@7 31@8 1@8",
		"\nbreak\ncontinue": "32@2 39@2 40@3", "function\nf\n(\na\n,\nb)\n{\na\n}": "32@1 41@1 1@4 1@6 32@7 31@8 1@8", "if (a) if\n(b)\nc": "32@1 33@1 1@1 32@1 33@1 1@2 32@3 31@3 1@3",
	} {
		n, line, e := jread.Parse(lexed(t, s))
		if got := lined(n); got != want || line != 0 || e != api.OK {
			t.Errorf("%q: %s, %d, %d", s, got, line, e)
		}
	}
}

// P4.1: the lines of expressions: brackets about one, or about that with which it begins, are passed over.
func TestExpressionLines(t *testing.T) {
	for s, want := range map[string]string{
		"a": "1@1", "\na": "1@2", "(\na)": "1@2", "(\n(\n(a)))": "1@3", "\n1": "2@2", "\n''": "3@2", "\nthis": "8@2", "\ninput": "9@2",
		"(\na\n)\n+\nb": "18@2 1@2 1@5", "(\n(\na)\n*\nb)\n<\nc": "18@3 18@3 1@3 1@5 1@7", "a\n+\n(\nb)": "18@1 1@1 1@4", "a ||\nb &&\nc": "22@1 1@1 21@2 1@2 1@3",
		"(\na)\n?\nb\n:\n(\nc\n)": "23@2 1@2 1@4 1@7", "(\na).b\n=\nc": "17@2 13@2 1@2 1@4", "a\n[\nb\n]\n=\nc": "17@1 14@1 1@1 1@3 1@6", "a =\nb\n= c": "17@1 1@1 17@2 1@2 1@3",
		"!\n(\na)": "19@1 1@3", "-\n-\na": "20@1 20@2 1@3", "(\n-a)\n*\nb": "18@2 20@2 1@2 1@4", "(\na\n.\nb)\n(\nc,\nd)": "15@2 13@2 1@2 1@6 1@7", "(\na)\n.b\n.c": "13@2 13@2 1@2", "((\na)(b))\n[c]": "14@2 15@2 1@2 1@2 1@3",
		"new\n(\na)\n(\nb)\n.c": "13@1 16@1 1@3 1@5", "(\nnew a)\n.b": "13@2 16@2 1@2", "new\na\n.b\n[\nc]": "16@1 14@2 13@2 1@2 1@5", "function\nf\n(\na)\n{\n}": "10@1 1@4 32@5", "(\nfunction() {})\n()": "15@2 10@2 32@2",
		"{\na\n:\n(\nb),\n'c':\n1\n}": "11@1 12@2 1@5 12@6 2@7", "(\n{\n}\n)\n.p": "13@2 11@2", "f(\n(\na\n)\n)": "15@1 1@1 1@3", "(\na = b)": "17@2 1@2 1@2", "((\na) ? b : c)": "23@2 1@2 1@2 1@2",
	} {
		n, line, e := jread.ParseExpr(lexed(t, s))
		if got := lined(n); got != want || line != 0 || e != api.OK {
			t.Errorf("%q: %s, %d, %d", s, got, line, e)
		}
	}
	l := lexed(t, "a + b; c")
	for i := range l {
		l[i].Line = -7 * i
	}
	if n, _, e := jread.Parse(l); e != api.OK || lined(n) != "32@0 31@0 18@0 1@0 1@-14 31@-28 1@-28" {
		t.Errorf("%s, %d", lined(n), e)
	}
}

// rooms calls each with every place of a tree's lists, and of their spare room.
func rooms(n api.Node, each func(at *api.Node)) {
	for _, part := range n.L {
		rooms(part, each)
	}
	for i := range n.L[:cap(n.L)] {
		each(&n.L[:cap(n.L)][i])
	}
}

// R3: tokens are not written into, nor kept; an answer's lists share no room, and two answers share none.
func TestAnswersAreNew(t *testing.T) {
	l := lexed(t, "function f(a, b) { var c = {p: a, q: {}}; if (a) b; else { c } return new a(b, c)(b)(b, c) ? -a[b].c : a[b] = c || !b }")
	roomy := append(slices.Clone(l), l...)[:len(l)]
	n, _, e := jread.Parse(roomy)
	other, _, _ := jread.Parse(l)
	if e != api.OK || !slices.Equal(roomy, l) || !slices.Equal(roomy[:2*len(l)][len(l):], l) {
		t.Error("tokens were changed", e)
	}
	want, _ := jtree.Show(n)
	clear(roomy[:2*len(l)])
	if got, _ := jtree.Show(n); got != want {
		t.Errorf("the tree was changed to %s", got)
	}
	met := map[*api.Node]bool{}
	rooms(n, func(at *api.Node) {
		if met[at] {
			t.Error("two lists share room")
		}
		met[at] = true
	})
	rooms(n, func(at *api.Node) { *at = api.Node{Op: -1} })
	if got, _ := jtree.Show(other); got != want {
		t.Errorf("another tree was changed to %s", got)
	}
}
