package graph_test

import (
	"math/rand/v2"
	"slices"
	"testing"

	"gumshoe/api"
	"gumshoe/graph"
)

// onlyEntered asks whether just the functions that are entered by a system's own facts are reached, and how many these are.
func onlyEntered(t *testing.T, s api.System) int {
	t.Helper()
	l := solved(s)
	entered := graph.Entered(l)
	same(t, "what is reached", s, graph.Reached(graph.Edges(s, l)), entered)
	return len(entered)
}

// P15.3: by a system's facts just the functions that are entered are reached.
func TestOnlyEntered(t *testing.T) {
	counts := map[int]int{}
	for seed := range uint64(6000) {
		counts[onlyEntered(t, made(65, seed))]++
	}
	for seed := range uint64(400) {
		counts[onlyEntered(t, program(65, seed))]++
	}
	if min(counts[1], counts[2], counts[3]) < 100 {
		t.Error(counts)
	}
}

func shuffled[T any](g *rand.Rand, l []T) []T {
	l = slices.Concat(l, l[:len(l)/2])
	g.Shuffle(len(l), func(i, j int) { l[i], l[j] = l[j], l[i] })
	return l
}

// P15.1, P15.2: no order makes a difference, nor what comes twice.
func TestOrder(t *testing.T) {
	for seed := range uint64(3000) {
		g := generator(66, seed)
		s, l, e, n := anySystem(g), anyFacts(g), anyEdges(g), number(g)
		other := s
		other.Rules = shuffled(g, s.Rules)
		facts, edges := shuffled(g, l), shuffled(g, e)
		same(t, "Edges", []any{s, l}, graph.Edges(other, facts), graph.Edges(s, l))
		same(t, "Reached", e, graph.Reached(edges), graph.Reached(e))
		same(t, "Callees", l, graph.Callees(facts, n), graph.Callees(l, n))
		same(t, "Callers", e, graph.Callers(edges, n), graph.Callers(e, n))
		same(t, "Entered", l, graph.Entered(facts), graph.Entered(l))
	}
}

// within asks whether a list's members are all in another one.
func within[T comparable](t *testing.T, what string, few, many []T) {
	t.Helper()
	for _, x := range few {
		if !slices.Contains(many, x) {
			t.Fatalf("%s: %v has not %v", what, many, x)
		}
	}
}

// P15.1, P15.2: more facts, and more edges, tell of no less.
func TestMore(t *testing.T) {
	for seed := range uint64(3000) {
		g := generator(67, seed)
		s, l, e := anySystem(g), anyFacts(g), anyEdges(g)
		facts, edges := slices.Concat(anyFacts(g), l), slices.Concat(e, anyEdges(g))
		within(t, "Edges", graph.Edges(s, l), graph.Edges(s, facts))
		within(t, "Reached", graph.Reached(e), graph.Reached(edges))
		within(t, "Callees", graph.Callees(l, 2), graph.Callees(facts, 2))
		within(t, "Callers", graph.Callers(e, 2), graph.Callers(edges, 2))
		within(t, "Entered", graph.Entered(l), graph.Entered(facts))
	}
}

// P15.1: edges that are told ask nothing of sets, keys, of what else rules name.
func TestNotNamed(t *testing.T) {
	for seed := range uint64(2000) {
		g := generator(68, seed)
		s, l := anySystem(g), anyFacts(g)
		want := graph.Edges(s, l)
		s.Sets = number(g)
		for n := range s.Rules {
			r := &s.Rules[n]
			r.X, r.Y, r.Z, r.N, r.S, r.L = number(g), number(g), number(g), number(g), "q", nil
			if r.Kind == api.RCall || r.Kind == api.RNew {
				r.Kind = api.RCall + api.RNew - r.Kind
			}
		}
		for n := range s.Funs {
			s.Funs[n] = api.FunSets{Mark: s.Funs[n].Mark, This: number(g)}
		}
		if len(s.Funs) > 0 {
			s.Funs[0].Mark = number(g)
		}
		same(t, "Edges", []any{s, l}, graph.Edges(s, l), want)
	}
}
