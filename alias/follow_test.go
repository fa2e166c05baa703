package alias_test

import (
	"slices"
	"testing"

	"gumshoe/alias"
	"gumshoe/api"
	"gumshoe/samples"
	"gumshoe/walk"
)

// may tells what a path may be.
func may(t *testing.T, k known, p api.Path) []int {
	t.Helper()
	l, e := alias.Points(k.funs, k.s, k.l, p)
	if e != api.OK {
		t.Fatalf("%v: %d", p, e)
	}
	return l
}

// within asks whether some marks are all among others.
func within(t *testing.T, of any, few, many []int) {
	t.Helper()
	for _, mark := range few {
		if !slices.Contains(many, mark) {
			t.Fatalf("%v: %v has not %d", of, many, mark)
		}
	}
}

// P16.3: more facts let a path be no less.
func TestMore(t *testing.T) {
	more := 0
	for seed := range uint64(10000) {
		g, k, p, q := made(t, 74, seed)
		few, one := may(t, k, p), alias.Load(k.l, []int{1, 2}, "p")
		meet, _ := alias.May(k.funs, k.s, k.l, p, q)
		k.l = slices.Concat(anyFacts(g, k.s.Funs[0].This-3), k.l)
		within(t, p, few, may(t, k, p))
		within(t, "p", one, alias.Load(k.l, []int{1, 2}, "p"))
		within(t, "p", one, alias.Load(k.l, []int{2, 3, 1}, "p"))
		if meet {
			k.may(t, p, q, true)
		}
		more += len(may(t, k, p)) - len(few)
	}
	if more < 1000 {
		t.Error(more)
	}
}

// P16.3: a path that may be something may be the same as itself; one that may be nothing is the same as none.
func TestSame(t *testing.T) {
	met := map[bool]int{}
	for seed := range uint64(10000) {
		_, k, p, q := made(t, 75, seed)
		some := len(may(t, k, p)) > 0
		k.may(t, p, p, some)
		k.may(t, p, api.Path{Var: p.Var, Keys: slices.Clone(p.Keys)}, some)
		if !some {
			k.may(t, p, q, false)
		}
		met[some]++
	}
	if min(met[true], met[false]) < 1000 {
		t.Error(met)
	}
}

// P16.1, P16.2: no order of facts and marks makes a difference, nor what comes twice.
func TestOrder(t *testing.T) {
	for seed := range uint64(5000) {
		g, k, p, q := made(t, 76, seed)
		of, key := anyMarks(g), key(g)
		a, b, c := may(t, k, p), may(t, k, q), alias.Load(k.l, of, key)
		k.l, of = slices.Concat(k.l, k.l[len(k.l)/2:]), slices.Concat(of, of)
		g.Shuffle(len(k.l), func(i, j int) { k.l[i], k.l[j] = k.l[j], k.l[i] })
		g.Shuffle(len(of), func(i, j int) { of[i], of[j] = of[j], of[i] })
		k.points(t, p, a)
		k.points(t, q, b)
		loads(t, k.l, of, key, c)
	}
}

// P16.2: a path is, key by key, what Load tells of what the path without that key may be.
func TestKeyByKey(t *testing.T) {
	for seed := range uint64(5000) {
		_, k, p, _ := made(t, 77, seed)
		for n, key := range p.Keys {
			few := may(t, k, api.Path{Var: p.Var, Keys: p.Keys[:n]})
			k.points(t, api.Path{Var: p.Var, Keys: p.Keys[:n+1]}, alias.Load(k.l, few, key))
		}
	}
}

// T1: what a run's variables hold at its end, and what these have at their own keys and behind them, is among what paths may be.
func TestRuns(t *testing.T) {
	met := 0
	for seed := range uint64(300) {
		p := samples.Program(generator(78, seed).IntN)
		k := solved(t, p)
		out, _, e := walk.Run(p, []int64{1, 0, 2, 1, 1}, 3000)
		if e != api.OK {
			t.Fatalf("%s: %d", samples.Shown(p), e)
		}
		for _, f := range out.Facts {
			if f.Kind != api.FVar {
				continue
			}
			within(t, samples.Shown(p), []int{f.B}, may(t, k, api.Path{Var: f.A}))
			for _, key := range []string{"p", "prototype", "call", "0"} {
				has := alias.Load(out.Facts, []int{f.B}, key)
				within(t, samples.Shown(p), has, may(t, k, api.Path{Var: f.A, Keys: []string{key}}))
				met += len(has)
			}
		}
	}
	if met < 1000 {
		t.Error(met)
	}
}
