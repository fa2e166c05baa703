package graph_test

import (
	"math"
	"math/rand/v2"
	"strconv"
	"strings"

	"gumshoe/api"
	"gumshoe/rules"
	"gumshoe/samples"
	"gumshoe/solve"
)

func generator(kind uint64, seed uint64) *rand.Rand { return rand.New(rand.NewPCG(kind, seed)) }

// made is the system of a seed.
func made(kind uint64, seed uint64) api.System { return samples.System(generator(kind, seed).IntN) }

// program is the system of a seed's program.
func program(kind uint64, seed uint64) api.System {
	return ruled(samples.Program(generator(kind, seed).IntN))
}

func ruled(p api.Node) api.System {
	_, s, _, _ := rules.Rules(p)
	return s
}

// solved are the facts of a system.
func solved(s api.System) []api.Fact {
	l, _ := solve.Solve(s, 10000000)
	return l
}

// numbers reads numbers, parted by blanks.
func numbers(text string) []int {
	var out []int
	for word := range strings.FieldsSeq(text) {
		n, _ := strconv.Atoi(word)
		out = append(out, n)
	}
	return out
}

// edges reads edges, parted by `; `.
func edges(text string) []api.Edge {
	var out []api.Edge
	for edge := range strings.SplitSeq(text, "; ") {
		if l := numbers(edge); len(l) == 3 {
			out = append(out, api.Edge{From: l[0], Mark: l[1], To: l[2]})
		}
	}
	return out
}

// number is any one, often a small one.
func number(g *rand.Rand) int {
	if g.IntN(20) > 0 {
		return g.IntN(5)
	}
	return []int{math.MinInt, math.MinInt + 1, -1 << 31, -2, api.MaxSet, api.MaxSet + 1, 1 << 32, math.MaxInt - 1, math.MaxInt}[g.IntN(9)]
}

// anySystem is one of few functions and calls, right or not.
func anySystem(g *rand.Rand) api.System {
	s := api.System{Sets: number(g)}
	for range g.IntN(7) {
		s.Funs = append(s.Funs, api.FunSets{Mark: number(g), Params: []int{number(g)}, This: number(g), Ret: number(g), Throw: number(g)})
	}
	for range g.IntN(20) {
		r := api.Rule{Kind: []int{api.RCall, api.RCall, api.RNew, api.RNew, api.RObj, api.RFun, api.RSub, api.RAny, api.RNew + 1, number(g)}[g.IntN(10)], F: number(g), M: number(g)}
		r.X, r.Y, r.Z, r.N, r.S, r.L = number(g), number(g), number(g), number(g), "p", []int{number(g)}
		s.Rules = append(s.Rules, r)
	}
	return s
}

// anyFacts are few facts, in no order, right or not.
func anyFacts(g *rand.Rand) []api.Fact {
	var l []api.Fact
	for range g.IntN(30) {
		kind := []int{api.FEnter, api.FEnter, api.FEnter, api.FCall, api.FCall, api.FCall, api.FCall, api.FIn, api.FAny, api.FThis, number(g)}[g.IntN(11)]
		l = append(l, api.Fact{Kind: kind, A: number(g), S: []string{"", "p"}[g.IntN(2)], B: number(g)})
	}
	return l
}

// anyEdges are few edges, in no order.
func anyEdges(g *rand.Rand) []api.Edge {
	var l []api.Edge
	for range g.IntN(10) {
		l = append(l, api.Edge{From: number(g), Mark: number(g), To: number(g)})
	}
	return l
}
