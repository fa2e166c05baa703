package scope_test

import (
	"fmt"
	"slices"
	"strings"
	"testing"

	"gumshoe/api"
	"gumshoe/jlex"
	"gumshoe/jread"
	"gumshoe/jtree"
	"gumshoe/scope"
)

func node(op int, s string, l ...api.Node) api.Node { return api.Node{Op: op, S: s, L: l} }

func id(s string) api.Node { return node(api.XId, s) }

func block(l ...api.Node) api.Node { return node(api.SBlock, "", l...) }

func expr(x api.Node) api.Node { return node(api.SExpr, "", x) }

func variable(s string) api.Node { return node(api.SVar, s) }

// read is a text's program.
func read(t *testing.T, s string) api.Node {
	t.Helper()
	l, _, e := jlex.Lex(s)
	p, line, f := jread.Parse(l)
	if e != api.OK || f != api.OK {
		t.Fatalf("%q is no program: %d, %d in line %d", s, e, f, line)
	}
	return p
}

// resolved are a program's functions and the resolved program, which must be the same tree but for the numbers that the chapter names.
func resolved(t *testing.T, p api.Node) ([]api.Fun, api.Node) {
	t.Helper()
	funs, r, line, e := scope.Resolve(p)
	if line != 0 || e != api.OK {
		t.Fatalf("%+v is refused: line %d, error %d", p, line, e)
	}
	if !jtree.Same(bare(r), bare(p)) || !slices.Equal(lines(r), lines(p)) {
		t.Fatalf("%+v is resolved to another tree: %+v", p, r)
	}
	return funs, r
}

// numbered tells whether the resolved program has a number of its own at such a tree.
func numbered(op int) bool {
	return slices.Contains([]int{api.XId, api.SVar, api.SForIn, api.STry, api.SFunc, api.XFun, api.XObj, api.XNew, api.XCall}, op)
}

// bare is a tree without those numbers, which shares nothing with it.
func bare(n api.Node) api.Node {
	if numbered(n.Op) {
		n.N = 0
	}
	n.L = slices.Clone(n.L)
	for i := range n.L {
		n.L[i] = bare(n.L[i])
	}
	return n
}

func lines(n api.Node) []int {
	var l []int
	jtree.Walk(n, func(n api.Node) bool {
		l = append(l, n.Line)
		return true
	})
	return l
}

// functions tells of each function what it is called, the one around it, its mark, its variables, with the parameters in brackets.
func functions(funs []api.Fun) string {
	var l []string
	for _, f := range funs {
		s := fmt.Sprintf("%s<%d @%d (%s)", f.Name, f.Around, f.Mark, strings.Join(f.Vars[:f.Params], " "))
		l = append(l, strings.TrimSpace(s+" "+strings.Join(f.Vars[f.Params:], " ")))
	}
	return strings.Join(l, "; ")
}

// numbers tells the numbers of the resolved program: of names their variables', of functions theirs (behind #), of others their marks (behind @).
func numbers(p api.Node) string {
	var l []string
	jtree.Walk(p, func(n api.Node) bool {
		switch n.Op {
		case api.XId, api.SVar, api.SForIn, api.STry:
			l = append(l, fmt.Sprintf("%s:%d", n.S, n.N))
		case api.SFunc, api.XFun:
			l = append(l, fmt.Sprintf("%s#%d", n.S, n.N))
		case api.XObj, api.XNew, api.XCall:
			l = append(l, fmt.Sprintf("@%d", n.N))
		}
		return true
	})
	return strings.Join(l, " ")
}

// is asks for what a text's program is resolved to.
func is(t *testing.T, s string, wantFunctions string, wantNumbers string) {
	t.Helper()
	funs, r := resolved(t, read(t, s))
	if got := functions(funs); got != wantFunctions {
		t.Errorf("%q has the functions\n%s, not\n%s", s, got, wantFunctions)
	}
	if got := numbers(r); got != wantNumbers {
		t.Errorf("%q has the numbers\n%s, not\n%s", s, got, wantNumbers)
	}
}

// P5.1: the chapter's examples, and those of the whole, as they are told.
func TestExamples(t *testing.T) {
	funs, r := resolved(t, read(t, "var a; function f(b) { return a + b; }"))
	want := []api.Fun{{Around: -1, Vars: []string{"a", "f"}}, {Name: "f", Params: 1, Vars: []string{"b"}, Mark: 4}}
	if fmt.Sprint(funs) != fmt.Sprint(want) {
		t.Errorf("%+v", funs)
	}
	a, b := api.Node{Op: api.XId, S: "a"}, api.Node{Op: api.XId, S: "b", N: 1000}
	f := api.Node{Op: api.SFunc, S: "f", N: 1, L: []api.Node{b, block(node(api.SRet, "", node(api.XBin, "+", a, b)))}}
	if !jtree.Same(r, block(variable("a"), f)) {
		t.Errorf("%+v", r)
	}
	refuses(t, "@x", api.ErrName)
	refuses(t, "@break", api.ErrJump)
	is(t, "function F() { this.p = {} } var x = new F()", "<-1 @0 () F x; F<0 @4 ()", "F#1 @6 x:1 @7 F:0")
}

// P5.1: functions, in the order in which Walk meets them, each with the one that it stands in.
func TestFunctions(t *testing.T) {
	is(t, "", "<-1 @0 ()", "")
	is(t, "function f() {} function g() {}", "<-1 @0 () f g; f<0 @4 (); g<0 @6 ()", "f#1 g#2")
	is(t, "function f() { function g() { function h() {} } function i() {} } function j() {}",
		"<-1 @0 () f j; f<0 @4 () g i; g<1 @6 () h; h<2 @8 (); i<1 @10 (); j<0 @12 ()", "f#1 g#2 h#3 i#4 j#5")
	is(t, "(function () { (function g() { }) }); (function () {})", "<-1 @0 (); <0 @4 (); g<1 @6 () g; <0 @8 ()", "#1 g#2 #3")
	is(t, "(function () { function f() {} })((function (a) {}))", "<-1 @0 (); <0 @5 () f; f<1 @7 (); <0 @9 (a)", "@4 #1 f#2 #3 a:3000")
	is(t, "if (true) { while (false) { function f() {} } } else try { function g() {} } catch (e) { function h() {} }",
		"<-1 @0 () f e g h; f<0 @4 (); g<0 @6 (); h<0 @8 ()", "f#1 e:1 g#2 h#3")
	is(t, "function f() {} function f(a) {}", "<-1 @0 () f; f<0 @4 (); f<0 @6 (a)", "f#1 f#2 a:2000")
}

// P5.1: a function's variables, each where its name stands first.
func TestVariables(t *testing.T) {
	is(t, "var a; var b; var a; a; b", "<-1 @0 () a b", "a:0 b:1 a:0 a:0 b:1")
	is(t, "b; a; var a = b; var b", "<-1 @0 () a b", "b:1 a:0 a:0 b:1 b:1")
	is(t, "for (var k in o) { var a } try { var b } catch (e) { var c; e } function f() {} var o",
		"<-1 @0 () k a e b c f o; f<0 @4 ()", "k:0 o:6 a:1 e:2 b:3 c:4 e:2 f#1 o:6")
	is(t, "var e; for (var e in e) try { } catch (e) { function e() { } } e", "<-1 @0 () e; e<0 @4 ()", "e:0 e:0 e:0 e:0 e#1 e:0")
	is(t, "{ { var a } if (a) { var b } while (b) { var c } }", "<-1 @0 () a b c", "a:0 a:0 b:1 b:1 c:2")
	is(t, "function f(a, b) { var c; var b; c; b; a }", "<-1 @0 () f; f<0 @4 (a b) c", "f#1 a:1000 b:1001 c:1002 b:1001 c:1002 b:1001 a:1000")
	is(t, "function f(c, c, d, c) { c; d } function g(a) { function a() {} for (var h in a) {} try {} catch (h) {} }",
		"<-1 @0 () f g; f<0 @4 (c d); g<0 @6 (a) h; a<2 @8 ()", "f#1 c:1000 c:1000 d:1001 c:1000 c:1000 d:1001 g#2 a:2000 a#3 h:2001 a:2000 h:2001")
	is(t, "var f = function (a) { var b = function () { var c; d } ; var d }", "<-1 @0 () f; <0 @4 (a) b d; <1 @6 () c", "f:0 #1 a:1000 b:1001 #2 c:2000 d:1002 d:1002")
	is(t, "var eval; var arguments; function get(arguments) { }", "<-1 @0 () eval arguments get; get<0 @4 (arguments)", "eval:0 arguments:1 get#1 arguments:1000")
}

// P5.1: an XFun's own name is one of its variables, an SFunc's one of the function around it.
func TestOwnNames(t *testing.T) {
	is(t, "(function f(a) { var b; f })", "<-1 @0 (); f<0 @4 (a) f b", "f#1 a:1000 b:1002 f:1001")
	is(t, "(function f(a, f) { f })", "<-1 @0 (); f<0 @4 (a f)", "f#1 a:1000 f:1001 f:1001")
	is(t, "(function f() { var f; var a; f })", "<-1 @0 (); f<0 @4 () f a", "f#1 f:1000 a:1001 f:1000")
	is(t, "(function f() { function f() { f } })", "<-1 @0 (); f<0 @4 () f; f<1 @6 ()", "f#1 f#2 f:1000")
	is(t, "function f() { f }", "<-1 @0 () f; f<0 @4 ()", "f#1 f:0")
	is(t, "function f(f) { f }", "<-1 @0 () f; f<0 @4 (f)", "f#1 f:1000 f:1000")
	is(t, "var f; (function f() { }); (function () { }); f", "<-1 @0 () f; f<0 @4 () f; <0 @6 ()", "f:0 f#1 #2 f:0")
}

// P5.1: a name is the variable of the innermost function around it that has one.
func TestInnermost(t *testing.T) {
	is(t, "var a; var b; var c; function f(b) { function g() { var c; a; b; c } a; b; c }",
		"<-1 @0 () a b c f; f<0 @4 (b) g; g<1 @6 () c", "a:0 b:1 c:2 f#1 b:1000 g#2 c:2000 a:0 b:1000 c:2000 a:0 b:1000 c:2")
	is(t, "function f() { a; var a } function g() { a } var a", "<-1 @0 () f g a; f<0 @4 () a; g<0 @6 ()", "f#1 a:1000 a:1000 g#2 a:2 a:2")
	is(t, "function f() { for (var a in f) {} } function g() { try { a } catch (a) { a } } var a; a = a",
		"<-1 @0 () f g a; f<0 @4 () a; g<0 @6 () a", "f#1 a:1000 f:0 g#2 a:2000 a:2000 a:2000 a:2 a:2 a:2")
	is(t, "(function (x) { return function (y) { return function (z) { return x + y + z } } })", "<-1 @0 (); <0 @4 (x); <1 @6 (y); <2 @8 (z)",
		"#1 x:1000 #2 y:2000 #3 z:3000 x:1000 y:2000 z:3000")
}

// P5.1: marks, from 4 on, in the order in which Walk meets their trees; keys, numbers and the like have none.
func TestMarks(t *testing.T) {
	is(t, "({}); ({p: {}, q: {}})", "<-1 @0 ()", "@4 @5 @6 @7")
	is(t, "var a; a(); a.b(a()); new a; new a.b({})", "<-1 @0 () a", "a:0 @4 a:0 @5 a:0 @6 a:0 @7 a:0 @8 a:0 @9")
	is(t, "var a; a({})(function () { a() }, new a({}))", "<-1 @0 () a; <0 @7 ()", "a:0 @4 @5 a:0 @6 #1 @9 a:0 @10 a:0 @11")
	is(t, "var a = {p: function f() { return {} }}; function g() { } a.p()", "<-1 @0 () a g; f<0 @5 () f; g<0 @8 ()", "a:0 @4 f#1 @7 g#2 @10 a:0")
	is(t, "var a = 1 + 'x'; a = a.p[5] || !null && -this ? input : undefined", "<-1 @0 () a", "a:0 a:0 a:0")
}

// P5.1: what stands where may be jumped from.
func TestJumps(t *testing.T) {
	is(t, "while (true) break; while (true) { { if (true) continue; else break } }", "<-1 @0 ()", "")
	is(t, "for (var k in this) try { break } catch (e) { continue }", "<-1 @0 () k e", "k:0 e:1")
	is(t, "while (true) { function f() { while (true) break; } continue }", "<-1 @0 () f; f<0 @4 ()", "f#1")
	is(t, "function f() { return } (function () { if (true) return 1; while (true) { return } })", "<-1 @0 () f; f<0 @4 (); <0 @6 ()", "f#1 #2")
	is(t, "while (true) { (function () { return }); break }", "<-1 @0 (); <0 @4 ()", "#1")
}
