package least_test

import (
	"math/rand/v2"
	"slices"

	"gumshoe/api"
	"gumshoe/rules"
	"gumshoe/samples"
	"gumshoe/solve"
)

// most is how many facts may be asked for.
const most = 10000000

func generator(kind uint64, seed uint64) *rand.Rand { return rand.New(rand.NewPCG(kind, seed)) }

// made is the system of a seed.
func made(kind uint64, seed uint64) api.System { return samples.System(generator(kind, seed).IntN) }

// program is the system of a seed's program.
func program(kind uint64, seed uint64) api.System {
	_, s, _, _ := rules.Rules(samples.Program(generator(kind, seed).IntN))
	return s
}

// solved are the facts of a system.
func solved(s api.System) []api.Fact {
	l, _ := solve.Solve(s, most)
	return l
}

// sorted is a list's facts, sorted, each once.
func sorted(l []api.Fact) []api.Fact {
	l = slices.SortedFunc(slices.Values(l), samples.Order)
	return slices.Compact(l)
}

// fact is any right one for a system, with marks that its rules may name, and far ones.
func fact(g *rand.Rand, s api.System) api.Fact {
	mark := func() int {
		return []int{0, 1, 2, 3, 2, 3, 4, 4, 5, 6, 7, 8, 9, 10, 50, 51, 99999, 100000, 1000000, 1000001}[g.IntN(20)]
	}
	f := api.Fact{Kind: []int{api.FProp, api.FProto, api.FCall, api.FEnter, api.FAny, api.FIn, api.FIn, api.FIn, api.FIn}[g.IntN(9)], A: mark(), B: mark()}
	switch f.Kind {
	case api.FProp:
		f.S = []string{"", "p", "prototype", "call", "apply", "\xff\x00"}[g.IntN(6)]
	case api.FEnter:
		f.A, f.B = g.IntN(len(s.Funs)), 0
	case api.FIn:
		f.A = g.IntN(s.Sets)
	}
	return f
}

// facts are right ones for a system: some of its own, and others that no rule may ask for.
func facts(g *rand.Rand, s api.System) []api.Fact {
	var l []api.Fact
	own, share := solved(s), g.IntN(5)
	for _, f := range own {
		if g.IntN(4) < share {
			l = append(l, f)
		}
	}
	for range g.IntN(4) * g.IntN(12) {
		l = append(l, fact(g, s))
	}
	return sorted(l)
}
