package scope_test

import (
	"fmt"
	"math"
	"strings"
	"testing"

	"gumshoe/api"
	"gumshoe/jtree"
	"gumshoe/scope"
)

// wrong asks for an error, and nothing beside it but its line.
func wrong(t *testing.T, p api.Node, wantLine int, want api.Errno) {
	t.Helper()
	funs, r, line, e := scope.Resolve(p)
	if line != wantLine || e != want {
		t.Errorf("%.300s is wrong in line %d by %d, not in line %d by %d", fmt.Sprint(p), line, e, wantLine, want)
	}
	if len(funs) > 0 || !jtree.Same(r, api.Node{}) || r.Line != 0 {
		t.Errorf("%.300s has an error, and functions %+v, and %+v", fmt.Sprint(p), funs, r)
	}
}

// refuses asks for a text's error: in the line of what stands behind the `@`.
func refuses(t *testing.T, s string, want api.Errno) {
	t.Helper()
	ahead, behind, _ := strings.Cut(s, "@")
	wrong(t, read(t, ahead+"\n\n"+behind), strings.Count(ahead, "\n")+3, want)
}

// P5.1: names that have no variable.
func TestErrName(t *testing.T) {
	for _, s := range []string{
		"@x", "var y; y = \n@x", "@x = 1", "@x.y", "@x.y = 1", "var a; a[\n@x] = a", "var a; a(a,\n@x)", "new \n@x", "({p: 1, q: \n@x})", "-\n@x",
		"if (@x) ; else ;", "while (true) { @x }", "for (var k in @x) ;", "throw -@x", "try { @x } catch (e) { }", "try { } catch (e) { @x }", "var x1 = @x",
		"function f() { return -@x }", "function f() { var x } @x", "function f(x) { } @x", "function f() { function x() { } } @x",
		"(function x() { }); @x", "(function () { (function (x) { }); @x })", "function f() { for (var x in f) { } } function g() { @x }",
		"({x: 1}); this.x; @x", "var X; @x", "({}).a = function () { try { } catch (x) { } }; @x",
	} {
		refuses(t, s, api.ErrName)
	}
}

// P5.1: jumps from where none is.
func TestErrJump(t *testing.T) {
	for _, s := range []string{
		"@return", "@return 1", "if (true) { @return }", "function f() { return } @return", "while (true) { @return }", "try { @return } catch (e) { }",
		"@break", "@continue", "if (true) @break; else ;", "{ { @continue } }", "while (true) break; @break", "for (var k in this) { } @continue",
		"while (true) { function f() { @break } }", "for (var k in this) { (function () { @continue }) }", "while ((function () { @break })()) { }",
		"for (var k in function () { @break }) { }", "function f() { while (true) { } @break }", "try { @break } catch (e) { }", "try { } catch (e) { @continue }",
		"while (true) { (function () { while (true) { } @break }) }", "function f() { for (var k in f) { } { @continue } }",
	} {
		refuses(t, s, api.ErrJump)
	}
}

// vars is a program's text of so many variables, from the number from on.
func vars(from, count int) string {
	var w strings.Builder
	for i := range count {
		fmt.Fprintf(&w, "var v%d;", from+i)
	}
	return w.String()
}

// names are so many parameters.
func names(count int) string {
	var l []string
	for i := range count {
		l = append(l, fmt.Sprintf("v%d", i))
	}
	return strings.Join(l, ", ")
}

// P5.1: at most 200 variables, each name once.
func TestManyVariables(t *testing.T) {
	for _, s := range []string{
		"function f() {%s}", "(function () {%s})", "(function g() { (function () {%s}) })",
	} {
		function := func(inner string) string { return strings.Replace(s, "%s", inner, 1) }
		at := strings.LastIndex(s, "(function")
		if at < 0 {
			at = 0
		}
		marked := s[:at] + "@" + s[at:]
		for inner, right := range map[string]bool{
			vars(0, 200): true, vars(0, 201): false, vars(0, 200) + vars(0, 200): true, vars(0, 199) + "for (var k in this) { }": true,
			vars(0, 200) + "for (var k in this) { }": false, vars(0, 200) + "try { } catch (e) { }": false, vars(0, 200) + "function h() { }": false,
			vars(0, 200) + "(function h() { var w })": true, vars(0, 199) + "function h(w, x) { " + vars(200, 100) + " }": true,
			"if (true) {" + vars(0, 100) + "} else while (true) {" + vars(100, 101) + "}": false,
		} {
			if right {
				resolved(t, read(t, function(inner)))
			} else {
				refuses(t, strings.Replace(marked, "%s", inner, 1), api.ErrMany)
			}
		}
	}
	for s, right := range map[string]bool{
		"function f(" + names(200) + ") { }": true, "function f(" + names(200) + ") { var v7 }": true, "@function f(" + names(200) + ") { var w }": false,
		"(function f(" + names(200) + ") { })": false, "(function v9(" + names(200) + ") { })": true, "(function f(" + names(199) + ") { var f })": true,
		"(function f(" + names(199) + ") { var w })": false, "(function (" + names(199) + ") { var w })": true,
	} {
		if right {
			resolved(t, read(t, s))
		} else if strings.HasPrefix(s, "@") {
			refuses(t, s, api.ErrMany)
		} else {
			refuses(t, "@"+s, api.ErrMany)
		}
	}
}

// P5.1: the program's own variables are asked for ahead of all.
func TestManyOfTheProgram(t *testing.T) {
	p := read(t, "\n\n"+vars(0, 200))
	if funs, _ := resolved(t, p); len(funs[0].Vars) != 200 {
		t.Error(funs)
	}
	for _, s := range []string{
		"\n\n" + vars(0, 201), "\n\nx; return; break;" + vars(0, 201), "\n\n;" + vars(0, 150) + "function f() { x; " + vars(0, 201) + " } { " + vars(150, 50) + " }",
		"\n\n{" + vars(0, 200) + "} try { } catch (e) { }", "\n\n" + strings.Repeat("(function () { });", 600) + vars(0, 201),
	} {
		wrong(t, read(t, s), 3, api.ErrMany)
	}
	p.L = append(p.L, variable("w"))
	for _, line := range []int{0, -7, math.MaxInt, math.MinInt} {
		p.Line = line
		wrong(t, p, line, api.ErrMany)
	}
}

// P5.1: at most 500 functions, with the program.
func TestManyFunctions(t *testing.T) {
	for _, one := range []string{"(function () { });", "(function f() { });", "function f() { }", "(function () { function f() { } })();", "{ function f(a) { (function () { }) } }"} {
		each := strings.Count(one, "function")
		for _, over := range []int{0, 1} {
			s := strings.Repeat(one, 499/each)
			for range 499 - 499/each*each + over {
				s += "\n(function () { })\n"
			}
			if over == 0 {
				if funs, _ := resolved(t, read(t, s)); len(funs) != 500 || funs[499].Mark == 0 {
					t.Errorf("%q has %d functions", one, len(funs))
				}
			} else {
				wrong(t, read(t, s), strings.Count(s, "\n"), api.ErrMany)
			}
		}
	}
	within := strings.Repeat("(function () {\n", 8)
	s := strings.Repeat(within+strings.Repeat("})", 8)+";", 62) // 496, and the program
	wrong(t, read(t, s+within+strings.Repeat("})", 8)), 62*8+4, api.ErrMany)
}

// P5.1: of several errors the one of the tree that Walk meets first.
func TestFirstError(t *testing.T) {
	many := "function f() {" + vars(0, 201) + "}"
	refuses(t, "@x; y", api.ErrName)
	refuses(t, "@x; break; "+many, api.ErrName)
	refuses(t, "@break; x; "+many, api.ErrJump)
	refuses(t, "@"+many+" x; break", api.ErrMany)
	refuses(t, "@return x", api.ErrJump)
	refuses(t, "@function f() { x; break;"+vars(0, 201)+"}", api.ErrMany)
	refuses(t, "function f() { @break; x } x; "+many, api.ErrJump)
	refuses(t, "var a; a = {p: @x, q: function () { continue }}", api.ErrName)
	refuses(t, "while (@x) { return }", api.ErrName)
	refuses(t, "for (var k in function () { @break }) x", api.ErrJump)
	refuses(t, strings.Repeat("(function () { });", 499)+"@x; (function () { })", api.ErrName)
	refuses(t, strings.Repeat("(function () { });", 499)+"@(function () { x })", api.ErrMany)
	refuses(t, "function f() {} @x", api.ErrName)
}

// P5.1: the line is the tree's, whatever it is.
func TestErrorLines(t *testing.T) {
	for _, line := range []int{0, 1, -1, math.MaxInt, math.MinInt} {
		for e, n := range map[api.Errno]api.Node{
			api.ErrName: {Op: api.XId, S: "x"}, api.ErrJump: {Op: api.SBreak}, api.ErrMany: {Op: api.SFunc, S: "f", L: []api.Node{read(t, vars(0, 201))}},
		} {
			n.Line = line
			if n.Op == api.XId {
				n = expr(n)
			}
			p := block(variable("a"), n)
			p.Line = 99
			wrong(t, p, line, e)
			wrong(t, block(p, p), line, e)
		}
	}
}

func leaf(op int) api.Node { return node(op, "") }

// many is a list of the same tree, so many times.
func many(n int, x api.Node) []api.Node {
	var l []api.Node
	for range n {
		l = append(l, x)
	}
	return l
}

// endless is a tree that has itself within.
func endless(op int) api.Node {
	n := block(node(op, ""), node(op, ""))
	n.L[0].L = n.L
	return n
}

// P5.1, R1: what is no right program.
func TestErrTree(t *testing.T) {
	a := id("a")
	high := block()
	for range 99 {
		high = block(high)
	}
	resolved(t, high)
	for _, p := range []api.Node{
		{}, a, {Op: -1}, {Op: math.MaxInt}, expr(a), variable("a"), node(api.SFunc, "f", block()), node(api.XFun, "f", block()),
		block(a), block(variable("")), block(variable("a b")), block(variable("if")), block(expr(node(api.XPair, "p", a))), block(node(api.SExpr, "", a, a)),
		block(node(api.SFunc, "f")), block(node(api.SFunc, "f", a)), block(node(api.SFunc, "", block())), block(node(api.SFunc, "f", block(), a)), block(expr(node(api.XFun, "f"))),
		block(node(api.SRet, "", a, a)), block(node(api.SBreak, "", a)), block(node(api.SWhile, "", a)), block(node(api.SForIn, "", a, block())), block(node(api.STry, "e", block())),
		block(api.Node{Op: api.SVar, S: "a", N: 1}), block(variable("a"), expr(api.Node{Op: api.XId, S: "a", N: 1000})), {Op: api.SBlock, S: "p"}, {Op: api.SBlock, N: 1},
		block(high), endless(api.SBlock), endless(api.SExpr), endless(api.XFun), endless(api.SFunc), block(node(api.SFunc, "f", append(many(201, a), block())...)),
		block(expr(id("x")), node(api.SBreak, "x")), block(leaf(api.SBreak), leaf(0)),
	} {
		p.Line = 5
		wrong(t, p, 0, api.ErrTree)
	}
	_, r := resolved(t, read(t, "var a; a; var b; b"))
	wrong(t, r, 0, api.ErrTree) // what was resolved is no program any more
}
