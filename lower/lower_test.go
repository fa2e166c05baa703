package lower_test

import (
	"fmt"
	"slices"
	"testing"

	"gumshoe/api"
	"gumshoe/code"
	"gumshoe/lower"
	"gumshoe/samples"
	"gumshoe/scope"
)

// lowered is a program that is to have a code: its functions are Resolve's, the code is right, with as many procs.
func lowered(t *testing.T, p api.Node) ([]api.Fun, []api.Proc) {
	t.Helper()
	funs, l, line, e := lower.Lower(p)
	if line != 0 || e != api.OK {
		t.Fatalf("%s: Lower tells %d at %d", samples.Shown(p), e, line)
	}
	want, _, _, _ := scope.Resolve(p)
	if fmt.Sprint(funs) != fmt.Sprint(want) {
		t.Fatalf("%s: functions %.300v, not %.300v", samples.Shown(p), funs, want)
	}
	if !code.Right(l) || len(l) != len(funs) {
		t.Fatalf("%s: no right code: %d procs of %d functions", samples.Shown(p), len(l), len(funs))
	}
	return funs, l
}

// refused is a program that is to have none: all others are zero.
func refused(t *testing.T, p api.Node, line int, e api.Errno) {
	t.Helper()
	funs, l, gotLine, got := lower.Lower(p)
	if gotLine != line || got != e {
		t.Errorf("%s: Lower tells %d at %d, not %d at %d", samples.Shown(p), got, gotLine, e, line)
	}
	if len(funs) != 0 || len(l) != 0 {
		t.Errorf("%s: %d functions and %d procs beside an error", samples.Shown(p), len(funs), len(l))
	}
}

// The chapter's example, and what the code of nothing must have.
func TestExamples(t *testing.T) {
	_, l := lowered(t, samples.Read("function f() { return {} } f()"))
	marks := code.Marks(l)
	slices.Sort(marks)
	if !slices.Equal(marks, []int{6, 7}) {
		t.Error(marks)
	}
	for _, s := range []string{"", "{ { } }", "var a", ";"} {
		if _, l := lowered(t, samples.Read(s)); len(l) != 1 || len(code.Marks(l)) != 0 {
			t.Error(s, l)
		}
	}
}

// P10.1: Resolve's error, and its line, come first.
func TestResolveErrors(t *testing.T) {
	refused(t, api.Node{}, 0, api.ErrTree)
	refused(t, api.Node{Op: api.XNull, Line: 7}, 0, api.ErrTree)
	refused(t, api.Node{Op: api.SBlock, N: 1, Line: 3}, 0, api.ErrTree)
	refused(t, node(api.SBlock, "", node(api.XNull, "")), 0, api.ErrTree)
	refused(t, node(api.SBlock, "", node(api.SExpr, "", node(api.XBin, "/", node(api.XNull, ""), node(api.XNull, "")))), 0, api.ErrTree)
	refused(t, samples.Read("var a;\na;\nb"), 3, api.ErrName)
	refused(t, samples.Read("var a;\n\nbreak"), 3, api.ErrJump)
	refused(t, samples.Read("while (true) {\ncontinue }\nreturn"), 3, api.ErrJump)
	refused(t, samples.Read("while (true) {\nfunction f() {\ncontinue }}"), 3, api.ErrJump)
	p := node(api.SBlock, "")
	p.Line = 4
	for i := range api.MaxVars + 1 {
		p.L = append(p.L, node(api.SVar, fmt.Sprintf("a%d", i)))
	}
	refused(t, p, 4, api.ErrMany)
	_, q, _, _ := scope.Resolve(samples.Read("var a; var b; b"))
	refused(t, q, 0, api.ErrTree)
}

// spread is which of a program's trees stand in which function: of a tree that becomes an instruction what it becomes, by number.
type spread struct {
	fun int
	op  int
	n   int64
}

// spreads are those of a resolved program, sorted.
func spreads(q api.Node) []spread {
	var l []spread
	becomes := map[int]int{api.XObj: api.IObj, api.XCall: api.ICall, api.XNew: api.INew, api.SFunc: api.IFun, api.XFun: api.IFun}
	var add func(n api.Node, fun int)
	add = func(n api.Node, fun int) {
		if op, ok := becomes[n.Op]; ok {
			l = append(l, spread{fun, op, n.N})
			if op == api.IFun {
				fun = int(n.N)
			}
		}
		for _, part := range n.L {
			add(part, fun)
		}
	}
	add(q, 0)
	return sorted(l)
}

func sorted(l []spread) []spread {
	slices.SortFunc(l, func(a, b spread) int {
		return slices.Compare([]int{a.fun, a.op, int(a.n)}, []int{b.fun, b.op, int(b.n)})
	})
	return l
}

// holds asks of a program's code that each object, call, construction and function is one instruction of its proc, and that variables are there.
func holds(t *testing.T, p api.Node) {
	t.Helper()
	funs, l := lowered(t, p)
	var got []spread
	for n, proc := range l {
		for _, i := range proc.Ins {
			switch i.Op {
			case api.IObj, api.ICall, api.INew, api.IFun:
				got = append(got, spread{n, i.Op, i.N})
			case api.IVar, api.ISet:
				seen(t, p, funs, n, i)
			}
		}
	}
	_, q, _, _ := scope.Resolve(p)
	if want := spreads(q); !slices.Equal(sorted(got), want) {
		t.Fatalf("%s: instructions %.300v, not %.300v", samples.Shown(p), got, want)
	}
}

// seen asks that a variable is one of the function, or of one around it.
func seen(t *testing.T, p api.Node, funs []api.Fun, fun int, i api.Ins) {
	t.Helper()
	of, at := int(i.N/1000), int(i.N%1000)
	for ; fun >= 0; fun = funs[fun].Around {
		if fun == of && at < len(funs[fun].Vars) {
			return
		}
	}
	t.Fatalf("%s: there is no variable %d", samples.Shown(p), i.N)
}

// P10.1, P10.2: what instructions there are, and which variables they name: of what is never reached, too.
func TestInstructions(t *testing.T) {
	for _, s := range []string{
		"function f() { return {} } f()",
		"var f; while (false) { new ({})({}, {}); } if (false) { function f() { ({}) } } else { x({}) } var x",
		"function f() { return; return {}; f({}); } throw {}; f(new f());",
		"for (var k in {}) { break; (function() { return function g() { g({}) } })() }",
		"while (true) { try { continue; ({}) } catch (e) { ({}); break; e({}) } }",
		"var a = {p: {q: {}}}; a.p.q = {}; a[{}] = {}; a[{}]({}); a.p(a.p()); true ? {} : {}; ({}) && {} || {}",
		"function f(a) { return function g(b) { return function(c) { return a + b + c } } } var x = !f; var y = -f",
		"(function f(f) { f() })(); (function g(a) { var g; g() })(); (function h(h, a) { function a() { } })",
		"function f() { } function f() { } function g(f, f) { function f() { } } new (new f())()",
	} {
		holds(t, samples.Read(s))
	}
}

// P10.1, P10.2: the same, of programs at random.
func TestRandomInstructions(t *testing.T) {
	for seed := range uint64(1000) {
		holds(t, made(10, seed))
	}
}

// again is a tree with other lines.
func again(n api.Node, line int) api.Node {
	l := make([]api.Node, 0, len(n.L)+1)
	for i, part := range n.L {
		l = append(l, again(part, 3*line-i))
	}
	n.L, n.Line = l, line
	return n
}

// P10.2: lines make no difference, nor does what was lowered before.
func TestLines(t *testing.T) {
	for seed := range uint64(300) {
		p := made(11, seed)
		_, l := lowered(t, p)
		for _, line := range []int{1, -9} {
			if _, other := lowered(t, again(p, line)); !code.Same(l, other) {
				t.Fatalf("%s: lines make a difference", samples.Shown(p))
			}
		}
	}
}
