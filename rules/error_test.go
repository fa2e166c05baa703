package rules_test

import (
	"fmt"
	"math"
	"testing"

	"gumshoe/api"
	"gumshoe/rules"
	"gumshoe/samples"
	"gumshoe/scope"
)

// times are so many of the same tree.
func times(count int, n api.Node) []api.Node {
	var l []api.Node
	for range count {
		l = append(l, n)
	}
	return l
}

// functions is a program of so many functions, itself with them.
func functions(count int) api.Node {
	return block(times(count-1, alone(node(api.XFun, "", block())))...)
}

// variables is a program of so many variables.
func variables(count int) api.Node {
	p := block()
	for i := range count {
		p.L = append(p.L, node(api.SVar, fmt.Sprintf("a%d", i)))
	}
	return p
}

// P12.1: Resolve's error, and its line, come first.
func TestResolveErrors(t *testing.T) {
	refused(t, api.Node{}, 0, api.ErrTree)
	refused(t, api.Node{Op: api.XNull, Line: 7}, 0, api.ErrTree)
	refused(t, api.Node{Op: api.SBlock, N: 1, Line: 3}, 0, api.ErrTree)
	refused(t, block(node(api.XNull, "")), 0, api.ErrTree)
	refused(t, block(alone(node(api.XBin, "/", node(api.XNull, ""), node(api.XNull, "")))), 0, api.ErrTree)
	refused(t, samples.Read("var a;\na;\nb"), 3, api.ErrName)
	refused(t, samples.Read("var a;\n\nbreak"), 3, api.ErrJump)
	refused(t, samples.Read("while (true) {\ncontinue }\nreturn"), 3, api.ErrJump)
	refused(t, samples.Read("while (true) {\nfunction f() {\ncontinue }}"), 3, api.ErrJump)
	for count, e := range map[int]api.Errno{api.MaxVars: api.OK, api.MaxVars + 1: api.ErrMany} {
		p := variables(count)
		p.Line = 4
		if e == api.OK {
			ruled(t, p)
		} else {
			refused(t, p, 4, e)
		}
	}
	ruled(t, functions(api.MaxFuns))
	p := functions(api.MaxFuns + 1)
	p.L[api.MaxFuns-1].L[0].Line = 5
	refused(t, p, 5, api.ErrMany)
	_, q, _, _ := scope.Resolve(samples.Read("var a; var b; b"))
	refused(t, q, 0, api.ErrTree)
}

// P12.1: a program may have 100000 sets, and no more, be they trees' or others; the line is 0.
func TestManySets(t *testing.T) {
	for name, p := range map[string]api.Node{
		"trees":     block(),
		"variables": variables(api.MaxVars),
		"functions": functions(api.MaxFuns),
		"all":       block(node(api.SFunc, "f", node(api.XId, "a"), block(variables(150), alone(node(api.XThis, "")))), variables(199)),
	} {
		p.Line = 9
		_, s := ruled(t, p)
		for more, e := range map[int]api.Errno{-1: api.OK, 0: api.OK, 1: api.ErrMany, 2: api.ErrMany, 1000: api.ErrMany, 200000: api.ErrMany} {
			q := p
			q.L = append(times(api.MaxSets-s.Sets+more, block()), p.L...)
			if e != api.OK {
				refused(t, q, 0, e)
			} else if _, other := ruled(t, q); other.Sets != api.MaxSets+more {
				t.Errorf("%s: %d sets", name, other.Sets)
			}
		}
	}
}

// P12.1: Resolve's errors come ahead of too many sets.
func TestErrorsOfManySets(t *testing.T) {
	many := times(api.MaxSets, block())
	for e, n := range map[api.Errno]api.Node{
		api.ErrTree: {Op: api.SBlock, S: "p"},
		api.ErrName: alone(api.Node{Op: api.XId, S: "x", Line: 6}),
		api.ErrJump: {Op: api.SBreak, Line: 6},
		api.ErrMany: {Op: api.SFunc, S: "f", Line: 6, L: []api.Node{variables(api.MaxVars + 1)}},
	} {
		line := 6
		if e == api.ErrTree {
			line = 0
		}
		refused(t, block(append(many[:len(many):len(many)], n)...), line, e)
	}
}

// P12.1: the greatest rules there may be.
func TestGreat(t *testing.T) {
	x := node(api.XNull, "")
	for range 2 {
		x = node(api.XCall, "", times(api.MaxParts, x)...)
	}
	_, s := ruled(t, block(alone(x)))
	if len(s.Rules) != 1+api.MaxParts || len(s.Rules[0].L) != api.MaxParts-1 || s.Rules[0].L[198] != 3+199*201 {
		t.Errorf("%d rules: %.200v", len(s.Rules), s.Rules)
	}
	high := node(api.SThrow, "", node(api.XThis, ""))
	for i := range 48 {
		high = node(api.STry, fmt.Sprintf("e%d", i), block(high), block())
	}
	funs, s := ruled(t, block(high))
	innermost, _ := rules.VarSet(funs, s, 47)
	if len(s.Rules) != 2 || len(funs[0].Vars) != 48 || s.Rules[0].Y != innermost {
		t.Errorf("%+v", s)
	}
}

// P12.2, R1: there is no variable of such a number, or not as many functions.
func TestNoVarSet(t *testing.T) {
	funs, s := ruled(t, samples.Read("var a; function f(b) { }"))
	none := func(funs []api.Fun, s api.System, l ...int) {
		t.Helper()
		for _, n := range l {
			if set, e := rules.VarSet(funs, s, n); set != 0 || e != api.ErrArg {
				t.Errorf("the variable %d has the set %d, %d", n, set, e)
			}
		}
	}
	has := func(n int, want int) {
		t.Helper()
		if set, e := rules.VarSet(funs, s, n); set != want || e != api.OK {
			t.Errorf("the variable %d has the set %d, %d, not %d", n, set, e, want)
		}
	}
	has(0, 5)
	has(1, 6)
	has(1000, 10)
	extremes := []int{-1, -999, -1000, -1001, 2, 3, 199, 200, 999, 1001, 1999, 2000, 2001, math.MaxInt, math.MaxInt - 999, math.MinInt, math.MinInt + 1, math.MaxInt32, -math.MaxInt32}
	none(funs, s, extremes...)
	all := append(extremes, 0, 1, 1000)
	none(nil, api.System{}, all...)
	none(nil, s, all...)
	none(funs, api.System{}, all...)
	none(funs[:1], s, all...)
	none(append(funs[:2:2], funs[1]), s, all...)
	other := s
	other.Funs = s.Funs[:1]
	none(funs, other, all...)
	none(funs[:0], other, all...)
}

// P12.2, R1: functions and systems that do not belong together make no panic, and no set that is none.
func TestStrangeSystems(t *testing.T) {
	for seed := range uint64(2000) {
		g := generator(22, seed)
		number := func() int {
			return []int{0, 1, -1, g.IntN(20), -g.IntN(20), math.MaxInt, math.MinInt}[g.IntN(7)]
		}
		s := api.System{Sets: number()}
		var funs []api.Fun
		for range 1 + g.IntN(3) {
			funs = append(funs, api.Fun{Around: number(), Params: number(), Vars: make([]string, g.IntN(1100)), Mark: number()})
			s.Funs = append(s.Funs, api.FunSets{Mark: number(), Params: []int{number()}, This: number(), Ret: number(), Throw: number()})
		}
		for range 20 {
			n := g.IntN(4000) - 100
			set, e := rules.VarSet(funs, s, n)
			if e != api.OK && (e != api.ErrArg || set != 0) || e == api.OK && (set < 0 || set >= s.Sets) {
				t.Fatalf("%d of %+v: %d, %d", n, s, set, e)
			}
		}
	}
}

// R1: what is no right program has an error, and no call panics.
func TestWrongTrees(t *testing.T) {
	for seed := range uint64(2000) {
		p := samples.Changed(generator(23, seed).IntN)
		_, _, line, e := scope.Resolve(p)
		if e != api.OK {
			refused(t, p, line, e)
		} else {
			ruled(t, p)
		}
	}
}
