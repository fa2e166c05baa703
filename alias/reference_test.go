package alias_test

import (
	"slices"
	"testing"

	"gumshoe/api"
	"gumshoe/rules"
	"gumshoe/samples"
)

// wantLoad is what marks have at a key, word by word as the chapters have it, fact by fact till there is no more.
func wantLoad(l []api.Fact, of []int, key string) []int {
	all := slices.Clone(of)
	for more := true; more; {
		more = false
		for _, f := range l {
			if f.Kind == api.FProto && slices.Contains(all, f.A) && !slices.Contains(all, f.B) {
				all = append(all, f.B)
				more = true
			}
		}
	}
	var out []int
	for _, f := range l {
		if slices.Contains(all, f.A) && (f.Kind == api.FAny || f.Kind == api.FProp && f.S == key) {
			out = append(out, f.B)
		}
	}
	return rising(out)
}

// wantPath is what a path of a set and keys may be.
func wantPath(l []api.Fact, set int, keys []string) []int {
	var out []int
	for _, f := range l {
		if f.Kind == api.FIn && f.A == set {
			out = append(out, f.B)
		}
	}
	for _, key := range keys {
		out = wantLoad(l, out, key)
	}
	return rising(out)
}

// want is what a path of a known program may be.
func (k known) want(p api.Path) []int {
	set, _ := rules.VarSet(k.funs, k.s, p.Var)
	return wantPath(k.l, set, p.Keys)
}

// asked asks all that is told of two paths, and answers how many marks both may be.
func (k known) asked(t *testing.T, p, q api.Path) int {
	t.Helper()
	a, b := k.want(p), k.want(q)
	k.points(t, p, a)
	k.points(t, q, b)
	both := 0
	for _, mark := range a {
		if slices.Contains(b, mark) {
			both++
		}
	}
	k.may(t, p, q, both > 0)
	return both
}

// P16.1: what any marks have by any facts, held against the chapters' words.
func TestLoadReference(t *testing.T) {
	counts := map[int]int{}
	for seed := range uint64(20000) {
		g := generator(71, seed)
		l, of, key := anyFacts(g, 0), anyMarks(g), key(g)
		want := wantLoad(l, of, key)
		loads(t, l, of, key, want)
		counts[min(len(want), 5)]++
	}
	if min(counts[0], counts[1], counts[2], counts[3], counts[4], counts[5]) < 200 {
		t.Error(counts)
	}
}

// P16.2: what paths may be by any facts, and whether two may be one.
func TestPointsReference(t *testing.T) {
	counts, meets := map[int]int{}, map[int]int{}
	for seed := range uint64(20000) {
		_, k, p, q := made(t, 72, seed)
		meets[min(k.asked(t, p, q), 3)]++
		if want := k.want(p); len(want) > 0 {
			counts[len(p.Keys)]++
		}
	}
	if min(counts[0], counts[1], counts[2], counts[3], counts[4], meets[0], meets[1], meets[2], meets[3]) < 300 {
		t.Error(counts, meets)
	}
}

// P16.2: paths of programs, by the facts that their rules ask for.
func TestPrograms(t *testing.T) {
	counts := map[int]int{}
	for seed := range uint64(400) {
		g := generator(73, seed)
		k := solved(t, samples.Program(g.IntN))
		variables := k.variables()
		for range 20 {
			p := anyPath(g, variables...)
			k.asked(t, p, anyPath(g, variables...))
			if len(k.want(p)) > 0 {
				counts[len(p.Keys)]++
			}
		}
	}
	if min(counts[0], counts[1], counts[2], counts[3]) < 30 {
		t.Error(counts)
	}
}
