package alias_test

import (
	"math"
	"math/rand/v2"
	"slices"
	"strconv"
	"strings"
	"testing"

	"gumshoe/api"
	"gumshoe/rules"
	"gumshoe/samples"
	"gumshoe/solve"
)

func generator(kind uint64, seed uint64) *rand.Rand { return rand.New(rand.NewPCG(kind, seed)) }

// known is a program's functions and system, with facts.
type known struct {
	funs []api.Fun
	s    api.System
	l    []api.Fact
}

// solved is a program with the facts that its rules ask for.
func solved(t *testing.T, p api.Node) known {
	t.Helper()
	funs, s, _, e := rules.Rules(p)
	l, f := solve.Solve(s, 10000000)
	if e != api.OK || f != api.OK {
		t.Fatalf("%s: %d, %d", samples.Shown(p), e, f)
	}
	return known{funs, s, l}
}

// path reads one: its variable's number, and its keys, parted by blanks.
func path(text string) api.Path {
	l := strings.Fields(text)
	n, _ := strconv.Atoi(l[0])
	return api.Path{Var: n, Keys: l[1:]}
}

// marks reads numbers, parted by blanks.
func marks(text string) []int {
	var l []int
	for _, word := range strings.Fields(text) {
		n, _ := strconv.Atoi(word)
		l = append(l, n)
	}
	return l
}

// rising is a list in order, with each number once.
func rising(l []int) []int { return slices.Compact(slices.Sorted(slices.Values(l))) }

func pick[T any](g *rand.Rand, l ...T) T { return l[g.IntN(len(l))] }

// number is any one, mostly a small one.
func number(g *rand.Rand) int {
	if g.IntN(12) > 0 {
		return g.IntN(8)
	}
	return pick(g, math.MinInt, -1<<40, -1, api.MaxMark, api.MaxMark+1, api.MaxSet, api.MaxSet+1, math.MaxInt)
}

func key(g *rand.Rand) string { return pick(g, "", "p", "p", "p", "q", "prototype", "\xff") }

// anyFacts are few facts, right or not, in no order, of any marks and of the sets from one on.
func anyFacts(g *rand.Rand, set int) []api.Fact {
	var l []api.Fact
	for range g.IntN(40) {
		f := api.Fact{Kind: pick(g, api.FIn, api.FIn, api.FProp, api.FProp, api.FProp, api.FAny, api.FProto, api.FProto, api.FCall, api.FVar, number(g)), A: number(g), B: number(g)}
		if f.Kind == api.FIn {
			f.A = set + g.IntN(3)
		}
		if f.Kind == api.FProp || g.IntN(10) == 0 {
			f.S = key(g)
		}
		l = append(l, f)
	}
	return l
}

// anyMarks are few marks, in no order.
func anyMarks(g *rand.Rand) []int {
	var l []int
	for range g.IntN(5) {
		l = append(l, number(g))
	}
	return l
}

// anyPath is one of few keys, most of which objects have in samples' programs and in facts that are made here.
func anyPath(g *rand.Rand, variables ...int) api.Path {
	p := api.Path{Var: pick(g, variables...)}
	for range g.IntN(5) {
		p.Keys = append(p.Keys, key(g))
	}
	return p
}

// made is a program of three variables, with any facts, and two paths of them.
func made(t *testing.T, kind uint64, seed uint64) (*rand.Rand, known, api.Path, api.Path) {
	t.Helper()
	g := generator(kind, seed)
	k := solved(t, samples.Read(pick(g, "var a; var b; var c", "function a() { } var b; var c = {}", "var a; var b; var c; function f(d) { }")))
	first, e := rules.VarSet(k.funs, k.s, 0)
	if e != api.OK {
		t.Fatal(e)
	}
	k.l = anyFacts(g, first)
	return g, k, anyPath(g, 0, 1, 2), anyPath(g, 0, 1, 2)
}

// variables are the numbers of all that a program has.
func (k known) variables() []int {
	var l []int
	for n, f := range k.funs {
		for v := range f.Vars {
			l = append(l, n*api.VarSpan+v)
		}
	}
	return l
}
