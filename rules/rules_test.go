package rules_test

import (
	"fmt"
	"slices"
	"strings"
	"testing"

	"gumshoe/api"
	"gumshoe/rules"
	"gumshoe/samples"
	"gumshoe/scope"
)

func node(op int, s string, l ...api.Node) api.Node { return api.Node{Op: op, S: s, L: l} }

func block(l ...api.Node) api.Node { return node(api.SBlock, "", l...) }

func alone(x api.Node) api.Node { return node(api.SExpr, "", x) }

// ruled is a program that is to have a system: its functions are Resolve's.
func ruled(t *testing.T, p api.Node) ([]api.Fun, api.System) {
	t.Helper()
	funs, s, line, e := rules.Rules(p)
	if line != 0 || e != api.OK {
		t.Fatalf("%s: Rules tells %d at %d", samples.Shown(p), e, line)
	}
	want, _, _, _ := scope.Resolve(p)
	if fmt.Sprint(funs) != fmt.Sprint(want) {
		t.Fatalf("%s: functions %.300v, not %.300v", samples.Shown(p), funs, want)
	}
	return funs, s
}

// refused is a program that is to have none: all others are zero.
func refused(t *testing.T, p api.Node, line int, e api.Errno) {
	t.Helper()
	funs, s, gotLine, got := rules.Rules(p)
	if gotLine != line || got != e {
		t.Errorf("%s: Rules tells %d at %d, not %d at %d", samples.Shown(p), got, gotLine, e, line)
	}
	if len(funs) != 0 || s.Sets != 0 || len(s.Funs) != 0 || len(s.Rules) != 0 {
		t.Errorf("%s: %d functions and %+v beside an error", samples.Shown(p), len(funs), s)
	}
}

// names are what each set is called: a tree's by its number, those of functions by theirs, and what they are there.
func names(funs []api.Fun, s api.System) []string {
	var l []string
	for i, f := range funs {
		for _, v := range append(slices.Clone(f.Vars), "this", "ret", "throw") {
			l = append(l, fmt.Sprintf("%d.%s", i, v))
		}
	}
	var all []string
	for i := range s.Sets - len(l) - 9 {
		all = append(all, fmt.Sprint(i))
	}
	return append(all, l...)
}

// told is a rule: of which function it is, unless it is the program's, its kind, and all fields that are not zero; set tells what a set is called.
func told(r api.Rule, set func(n int) string) string {
	kinds := []string{api.RObj: "obj", api.RFun: "fun", api.RSub: "sub", api.RLoad: "load", api.RLoadX: "loadx", api.RStore: "store", api.RAny: "any", api.RCall: "call", api.RNew: "new"}
	l := []string{kinds[r.Kind], set(r.X)}
	if r.F != 0 {
		l = append([]string{fmt.Sprintf("%d:", r.F)}, l...)
	}
	switch {
	case r.Z == -1:
		l = append(l, "of -")
	case r.Z != 0:
		l = append(l, "of "+set(r.Z))
	}
	if r.S != "" {
		l = append(l, fmt.Sprintf("%q", r.S))
	}
	for _, n := range r.L {
		l = append(l, "("+set(n)+")")
	}
	if r.Y != 0 {
		l = append(l, "> "+set(r.Y))
	}
	switch {
	case r.Kind == api.RFun:
		l = append(l, fmt.Sprintf("#%d", r.N))
	case r.N != 0:
		l = append(l, "throws "+set(r.N))
	}
	if r.M != 0 {
		l = append(l, fmt.Sprintf("@%d", r.M))
	}
	return strings.Join(l, " ")
}

// is asks for the rules of a text's program, parted by `; `.
func is(t *testing.T, text string, want string) {
	t.Helper()
	funs, s := ruled(t, samples.Read(text))
	called := names(funs, s)
	var l []string
	for _, r := range s.Rules {
		l = append(l, told(r, func(n int) string { return called[n] }))
	}
	if got := strings.Join(l, "; "); got != want {
		t.Errorf("%q has the rules\n%s, not\n%s", text, got, want)
	}
}

// The chapter's example, with all that is told of it.
func TestExample(t *testing.T) {
	funs, s := ruled(t, samples.Read("var a = {}"))
	want := api.System{Sets: 16, Funs: []api.FunSets{{This: 4, Ret: 5, Throw: 6}}, Rules: []api.Rule{{Kind: api.RSub, X: 2, Y: 3}, {Kind: api.RObj, X: 2, M: 4}}}
	if fmt.Sprintf("%+v", s) != fmt.Sprintf("%+v", want) || len(funs) != 1 || !slices.Equal(funs[0].Vars, []string{"a"}) {
		t.Errorf("%+v of %+v", s, funs)
	}
}

// P12.1: which set is whose: trees, as Walk meets them, functions' variables and what else is theirs, nine more.
func TestSets(t *testing.T) {
	for _, c := range []struct {
		text string
		sets int
		funs []api.FunSets
	}{
		{"", 1 + 3 + 9, []api.FunSets{{This: 1, Ret: 2, Throw: 3}}},
		{"var a; var b; var a", 4 + 5 + 9, []api.FunSets{{This: 6, Ret: 7, Throw: 8}}},
		{"function f() { }", 3 + 4 + 3 + 9, []api.FunSets{{This: 4, Ret: 5, Throw: 6}, {Mark: 4, This: 7, Ret: 8, Throw: 9}}},
		{"function f(a, b) { var c }", 6 + 4 + 6 + 9, []api.FunSets{{This: 7, Ret: 8, Throw: 9}, {Mark: 4, Params: []int{10, 11}, This: 13, Ret: 14, Throw: 15}}},
		{"(function f(a, a, b) { function a() { } })", 9 + 3 + 6 + 3 + 9, // a parameter that stands twice is one; own names stand behind them
			[]api.FunSets{{This: 9, Ret: 10, Throw: 11}, {Mark: 4, Params: []int{12, 13}, This: 15, Ret: 16, Throw: 17}, {Mark: 6, This: 18, Ret: 19, Throw: 20}}},
		{"({p: function(a) { for (var b in a) { } }}); function g(c) { }", 13 + 4 + 5 + 4 + 9,
			[]api.FunSets{{This: 14, Ret: 15, Throw: 16}, {Mark: 5, Params: []int{17}, This: 19, Ret: 20, Throw: 21}, {Mark: 7, Params: []int{22}, This: 23, Ret: 24, Throw: 25}}},
	} {
		if _, s := ruled(t, samples.Read(c.text)); s.Sets != c.sets || fmt.Sprintf("%+v", s.Funs) != fmt.Sprintf("%+v", c.funs) {
			t.Errorf("%q has %d sets, and %+v", c.text, s.Sets, s.Funs)
		}
	}
}

// P12.1: names, this, functions.
func TestNames(t *testing.T) {
	is(t, "", "")
	is(t, "var a; a", "sub 0.a > 3")
	is(t, "var a; var b; b; a", "sub 0.b > 4; sub 0.a > 6")
	is(t, "this", "sub 0.this > 2")
	is(t, "function f() { this }", "fun 0.f #1; 1: sub 1.this > 4")
	is(t, "function f(a) { a }", "fun 0.f #1; 1: sub 1.a > 5")
	is(t, "var a; function f() { a; function g() { a; f } }", "fun 0.f #1; 1: sub 0.a > 5; 1: fun 1.g #2; 2: sub 0.a > 9; 2: sub 0.f > 11")
	is(t, "(function() { this })", "fun 2 #1; 1: sub 1.this > 5")
	is(t, "(function f() { f })", "fun 2 #1; fun 1.f #1; 1: sub 1.f > 5")
	is(t, "(function f(a) { var b })", "fun 2 #1; fun 1.f #1")
	is(t, "(function f(f) { f })", "fun 2 #1; 1: sub 1.f > 6")
	is(t, "(function f(a, f) { })", "fun 2 #1")
	is(t, "(function f() { var f; function f() { } })", "fun 2 #1; fun 1.f #1; 1: fun 1.f #2")
	is(t, "(function f() { (function f() { f }) })", "fun 2 #1; fun 1.f #1; 1: fun 5 #2; 1: fun 2.f #2; 2: sub 2.f > 8")
	is(t, "var f; (function f() { }); (function() { })", "fun 3 #1; fun 1.f #1; fun 6 #2")
	is(t, "function f(f) { function f() { f } }", "fun 0.f #1; 1: fun 1.f #2; 2: sub 1.f > 7")
	is(t, "if (true) { function f() { } } function f() { }", "fun 0.f #1; fun 0.f #2")
}

// P12.1: objects, their keys, what is put there.
func TestKeys(t *testing.T) {
	is(t, "({})", "obj 2 @4")
	is(t, "({p: 1, q: {}, p: 2})", `obj 2 @4; store 2 "p" > 4; store 2 "q" > 6; store 2 "p" > 8; obj 6 @5`)
	is(t, "({'': null, 0: this})", `obj 2 @4; store 2 > 4; store 2 "0" > 6; sub 0.this > 6`)
	is(t, "({p: {q: {}}})", `obj 2 @4; store 2 "p" > 4; obj 4 @5; store 4 "q" > 6; obj 6 @6`)
	is(t, "this.p", `load 3 "p" > 2; sub 0.this > 3`)
	is(t, "this.p.new", `load 3 "new" > 2; load 4 "p" > 3; sub 0.this > 4`)
	is(t, "this['p']", "loadx 3 > 2; sub 0.this > 3")
	is(t, "this[this.p]", `loadx 3 > 2; sub 0.this > 3; load 5 "p" > 4; sub 0.this > 5`)
}

// P12.1: what is set: a variable, a key, one that is not known.
func TestSettings(t *testing.T) {
	is(t, "var a; a = this", "sub 5 > 0.a; sub 5 > 3; sub 0.this > 5")
	is(t, "var a; a.p = this", `store 5 "p" > 6; sub 6 > 3; sub 0.a > 5; sub 0.this > 6`)
	is(t, "var a; a[a] = this", "any 5 > 7; sub 7 > 3; sub 0.a > 5; sub 0.a > 6; sub 0.this > 7")
	is(t, "var a; a.p.q = 1", `store 5 "q" > 7; sub 7 > 3; load 6 "p" > 5; sub 0.a > 6`)
	is(t, "var a; a[1][2] = 3", "any 5 > 9; sub 9 > 3; loadx 6 > 5; sub 0.a > 6")
	is(t, "var a; var b; a = b = a", "sub 6 > 0.a; sub 6 > 4; sub 8 > 0.b; sub 8 > 6; sub 0.a > 8")
	is(t, "var a; (a = this).p = a", `store 5 "p" > 8; sub 8 > 3; sub 7 > 0.a; sub 7 > 5; sub 0.this > 7; sub 0.a > 8`)
	is(t, "function f(a) { f = a }", "fun 0.f #1; 1: sub 7 > 0.f; 1: sub 7 > 5; 1: sub 1.a > 7")
	is(t, "var a = this; var b", "sub 2 > 0.a; sub 0.this > 2")
	is(t, "var a = 1; function f(b) { var a = b; var b = this }", "sub 2 > 0.a; fun 0.f #1; 1: sub 7 > 1.a; 1: sub 1.b > 7; 1: sub 9 > 1.b; 1: sub 1.this > 9")
}

// P12.1: values that are one of several; all others are no objects.
func TestChoices(t *testing.T) {
	is(t, "this && {}", "sub 4 > 2; sub 0.this > 3; obj 4 @4")
	is(t, "this || {}", "sub 3 > 2; sub 4 > 2; sub 0.this > 3; obj 4 @4")
	is(t, "this ? {} : {}", "sub 4 > 2; sub 5 > 2; sub 0.this > 3; obj 4 @4; obj 5 @5")
	is(t, "1 && 2 || 3", "sub 3 > 2; sub 6 > 2; sub 5 > 3")
	is(t, "-this; !{}; 1 + {}; 'a' === null; input; undefined < true; false", "sub 0.this > 3; obj 6 @4; obj 10 @5")
}

// P12.1: calls and constructions, with what they give, and where what they throw goes.
func TestCalls(t *testing.T) {
	is(t, "var f; f()", "call 4 of - > 3 throws 0.throw @4; sub 0.f > 4")
	is(t, "var f; f(1, f)", "call 4 of - (5) (6) > 3 throws 0.throw @4; sub 0.f > 4; sub 0.f > 6")
	is(t, "var f; f.p(f)", `call 4 of 5 (6) > 3 throws 0.throw @4; load 5 "p" > 4; sub 0.f > 5; sub 0.f > 6`)
	is(t, "var f; f['p']()", "call 4 of 5 > 3 throws 0.throw @4; loadx 5 > 4; sub 0.f > 5")
	is(t, "var f; f()({})", "call 4 of - (6) > 3 throws 0.throw @4; call 5 of - > 4 throws 0.throw @5; sub 0.f > 5; obj 6 @6")
	is(t, "var f; (f && f.p)()", `call 4 of - > 3 throws 0.throw @4; sub 6 > 4; sub 0.f > 5; load 7 "p" > 6; sub 0.f > 7`)
	is(t, "var f; (f.p = f)()", `call 4 of - > 3 throws 0.throw @4; store 6 "p" > 7; sub 7 > 4; sub 0.f > 6; sub 0.f > 7`)
	is(t, "var f; new f", "new 4 > 3 throws 0.throw @4; sub 0.f > 4")
	is(t, "var f; new f.p({}, 1)", `new 4 (6) (7) > 3 throws 0.throw @4; load 5 "p" > 4; sub 0.f > 5; obj 6 @5`)
	is(t, "var f; new f[1]().p()", `call 4 of 5 > 3 throws 0.throw @4; load 5 "p" > 4; new 6 > 5 throws 0.throw @5; loadx 7 > 6; sub 0.f > 7`)
	is(t, "function f(a) { a(); new a }", "fun 0.f #1; 1: call 6 of - > 5 throws 1.throw @6; 1: sub 1.a > 6; 1: new 9 > 8 throws 1.throw @7; 1: sub 1.a > 9")
}

// P12.1: what functions return, and what is thrown: it goes to the innermost try of the same function, in whose first block it is thrown.
func TestReturnsAndThrows(t *testing.T) {
	is(t, "throw {}", "sub 2 > 0.throw; obj 2 @4")
	is(t, "function f() { return; return this }", "fun 0.f #1; 1: sub 5 > 1.ret; 1: sub 1.this > 5")
	is(t, "function f() { throw f; function g() { throw g } }", "fun 0.f #1; 1: sub 4 > 1.throw; 1: sub 0.f > 4; 1: fun 1.g #2; 2: sub 8 > 2.throw; 2: sub 1.g > 8")
	is(t, "(function() { return function() { return {} } })", "fun 2 #1; 1: sub 5 > 1.ret; 1: fun 5 #2; 2: sub 8 > 2.ret; 2: obj 8 @8")
	is(t, "try { throw 1 } catch (e) { throw 2 } throw 3", "sub 4 > 0.e; sub 7 > 0.throw; sub 9 > 0.throw")
	is(t, "var f; try { f() } catch (e) { f(); new f }", "call 6 of - > 5 throws 0.e @4; sub 0.f > 6; call 10 of - > 9 throws 0.throw @5; sub 0.f > 10; new 13 > 12 throws 0.throw @6; sub 0.f > 13")
	is(t, "try { try { throw 1 } catch (a) { throw 2 } throw 3 } catch (b) { try { throw 4 } catch (c) { throw 5 } throw 6 }",
		"sub 6 > 0.a; sub 9 > 0.b; sub 11 > 0.b; sub 16 > 0.c; sub 19 > 0.throw; sub 21 > 0.throw")
	is(t, "try { if (1) { while (2) { for (var k in 3) { { throw 4 } } } } } catch (e) { }", "sub 14 > 0.e")
	is(t, "try { try { throw 1 } catch (e) { throw 2 } } catch (e) { }", "sub 6 > 0.e; sub 9 > 0.e")
	is(t, "try { (function() { throw 1 }) } catch (e) { }", "fun 4 #1; 1: sub 7 > 1.throw")
	is(t, "try { function f() { try { throw 1 } catch (e) { throw 2 } throw 3 } throw 4 } catch (e) { }",
		"fun 0.f #1; 1: sub 8 > 1.e; 1: sub 11 > 1.throw; 1: sub 13 > 1.throw; sub 15 > 0.e")
	is(t, "function f(e) { try { throw this } catch (e) { } }", "fun 0.f #1; 1: sub 7 > 1.e; 1: sub 1.this > 7")
	is(t, "var f; try { f(f(), new f) } catch (e) { }", "call 6 of - (7) (9) > 5 throws 0.e @4; sub 0.f > 6; call 8 of - > 7 throws 0.e @5; sub 0.f > 8; new 10 > 9 throws 0.e @6; sub 0.f > 10")
	is(t, "try { } catch (e) { (function() { this() }) }", "fun 5 #1; 1: call 9 of - > 8 throws 1.throw @6; 1: sub 1.this > 9")
}

// P12.1: statements that have no rules of their own; those of what they are made of stand where the rule says.
func TestStatements(t *testing.T) {
	is(t, "{ { } ; } while (true) { break; continue }", "")
	is(t, "for (var k in {}) { }", "obj 2 @4")
	is(t, "for (var k in this) { k } k", "sub 0.this > 2; sub 0.k > 5; sub 0.k > 7")
	is(t, "if (this) { this } else { this }", "sub 0.this > 2; sub 0.this > 5; sub 0.this > 8")
	is(t, "while (this) { this }", "sub 0.this > 2; sub 0.this > 5")
}
