package alias_test

import (
	"math"
	"slices"
	"testing"

	"gumshoe/alias"
	"gumshoe/api"
	"gumshoe/rules"
	"gumshoe/samples"
)

// refused asks for a path that there is none of, alone, and beside one that there is.
func (k known) refused(t *testing.T, p api.Path, right api.Path) {
	t.Helper()
	if got, e := alias.Points(k.funs, k.s, k.l, p); e != api.ErrPath || len(got) > 0 {
		t.Errorf("%v: %v, %d", p, got, e)
	}
	for _, paths := range [][2]api.Path{{p, p}, {p, right}, {right, p}} {
		if got, e := alias.May(k.funs, k.s, k.l, paths[0], paths[1]); e != api.ErrPath || got {
			t.Errorf("%v: %v, %d", paths, got, e)
		}
	}
}

// P16.2: a path has at most 20 keys.
func TestManyKeys(t *testing.T) {
	k := solved(t, samples.Read("var a = {}; a.p = a"))
	for _, count := range []int{0, 1, 2, 19, 20, 21, 22, 40, 1000} {
		p := api.Path{Keys: slices.Repeat([]string{"p"}, count)}
		if count > api.MaxKeys {
			k.refused(t, p, path("0"))
			continue
		}
		k.points(t, p, []int{4})
		k.may(t, p, path("0"), true)
		if count > 0 {
			p.Keys[count-1] = "q"
			k.points(t, p, nil)
			k.may(t, p, p, false)
		}
	}
	k.refused(t, api.Path{Var: 1, Keys: slices.Repeat([]string{"p"}, 21)}, path("0"))
	k.refused(t, api.Path{Keys: slices.Repeat([]string{"q"}, 21)}, path("0 q q"))
}

// P16.2: the variable is one that there is.
func TestNoVariable(t *testing.T) {
	k := solved(t, samples.Read("var a = {}; function f(b) { var c; } var d = a; f(a)"))
	for _, n := range []int{0, 2, 1000} {
		k.points(t, api.Path{Var: n}, []int{4})
	}
	k.points(t, api.Path{Var: 1001}, nil)
	for _, n := range []int{-1, -2, -999, -1000, -1001, 3, 4, 199, 200, 999, 1002, 1200, 1999, 2000, 2001, math.MinInt, math.MinInt + 1, math.MaxInt, math.MaxInt - 1, math.MaxInt - 999, 1 << 32, 1<<32 + 1000} {
		k.refused(t, api.Path{Var: n}, path("0"))
		k.refused(t, api.Path{Var: n, Keys: []string{"p"}}, path("1000 p"))
	}
}

// P16.2: functions and a system have as many functions.
func TestOtherSystems(t *testing.T) {
	k := solved(t, samples.Read("var a = {}; function f(b) { }"))
	for _, other := range []known{
		{k.funs[:1], k.s, k.l},
		{nil, k.s, k.l},
		{append(k.funs[:2:2], k.funs[1]), k.s, k.l},
		{k.funs, api.System{}, k.l},
		{k.funs, api.System{Sets: k.s.Sets, Funs: k.s.Funs[:1]}, k.l},
		{nil, api.System{}, nil},
	} {
		for _, n := range []int{0, 1, 1000, -1, 2000} {
			other.refused(t, api.Path{Var: n}, api.Path{Var: n})
		}
	}
	k.s.Rules = nil // these are not asked, but the facts that they came to
	k.points(t, path("0"), []int{4})
}

// R1: no call panics, whatever is handed in; what is refused is what has no set, or too many keys.
func TestStrange(t *testing.T) {
	met := map[api.Errno]int{}
	for seed := range uint64(20000) {
		g := generator(70, seed)
		k := known{s: api.System{Sets: number(g) * 10}, l: anyFacts(g, 0)}
		for range g.IntN(4) {
			k.funs = append(k.funs, api.Fun{Around: number(g), Params: number(g), Vars: make([]string, g.IntN(6)), Mark: number(g)})
		}
		for range pick(g, len(k.funs), len(k.funs), len(k.funs), g.IntN(4)) {
			k.s.Funs = append(k.s.Funs, api.FunSets{Mark: number(g), Params: []int{number(g)}, This: number(g), Ret: number(g), Throw: number(g)})
		}
		p, right := anyPath(g, 0, 1, 2, 1000, 1001, 2000, number(g)), path("0")
		if g.IntN(8) == 0 {
			p.Keys = make([]string, g.IntN(30))
		}
		set, e := rules.VarSet(k.funs, k.s, p.Var)
		if e == api.OK && len(p.Keys) <= api.MaxKeys {
			k.points(t, p, wantPath(k.l, set, p.Keys))
		} else {
			e = api.ErrPath
			k.refused(t, p, right)
		}
		met[e]++
	}
	if min(met[api.OK], met[api.ErrPath]) < 1000 {
		t.Error(met)
	}
}
