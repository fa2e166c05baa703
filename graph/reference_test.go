package graph_test

import (
	"cmp"
	"slices"
	"testing"

	"gumshoe/api"
	"gumshoe/graph"
)

// is tells whether a fact is one of that kind and of that A.
func is(kind int, a int) func(f api.Fact) bool {
	return func(f api.Fact) bool { return f.Kind == kind && f.A == a }
}

// wantEdges are a system's edges, word by word as the chapter has them.
func wantEdges(s api.System, l []api.Fact) []api.Edge {
	met := map[api.Edge]bool{}
	var out []api.Edge
	for _, r := range s.Rules {
		if r.Kind != api.RCall && r.Kind != api.RNew || !slices.ContainsFunc(l, is(api.FEnter, r.F)) {
			continue
		}
		for n, f := range s.Funs {
			called := func(call api.Fact) bool { return is(api.FCall, r.M)(call) && call.B == f.Mark }
			e := api.Edge{From: r.F, Mark: r.M, To: n}
			if n > 0 && r.F >= 0 && r.F < len(s.Funs) && slices.ContainsFunc(l, called) && !met[e] {
				met[e] = true
				out = append(out, e)
			}
		}
	}
	slices.SortFunc(out, func(a, b api.Edge) int {
		return cmp.Or(cmp.Compare(a.From, b.From), cmp.Compare(a.Mark, b.Mark), cmp.Compare(a.To, b.To))
	})
	return out
}

// wantReached is what edges reach, edge by edge till there is no more.
func wantReached(l []api.Edge) []int {
	out := []int{0}
	for more := true; more; {
		more = false
		for _, e := range l {
			if slices.Contains(out, e.From) && !slices.Contains(out, e.To) {
				out = append(out, e.To)
				more = true
			}
		}
	}
	return rising(out)
}

// rising are all numbers of a list, in order, each once.
func rising(l []int) []int {
	var out []int
	for _, n := range slices.Sorted(slices.Values(l)) {
		if len(out) == 0 || out[len(out)-1] != n {
			out = append(out, n)
		}
	}
	return out
}

func same[T comparable](t *testing.T, what string, of any, got []T, want []T) {
	t.Helper()
	if !slices.Equal(got, want) {
		t.Fatalf("%s of %+v: %v, not %v", what, of, got, want)
	}
}

// asked asks all that is told of a system and facts, and of its edges.
func asked(t *testing.T, s api.System, l []api.Fact) []api.Edge {
	t.Helper()
	out := wantEdges(s, l)
	same(t, "Edges", []any{s, l}, graph.Edges(s, l), out)
	same(t, "Reached", out, graph.Reached(out), wantReached(out))
	return out
}

// P15.1: edges and what they reach, of any systems and facts, held against the chapter's words.
func TestReference(t *testing.T) {
	all, from, reached := 0, map[int]int{}, map[int]int{}
	for seed := range uint64(20000) {
		g := generator(60, seed)
		l := asked(t, anySystem(g), anyFacts(g))
		all += len(l)
		for _, e := range l {
			from[e.From]++
		}
		reached[len(graph.Reached(l))]++
	}
	if all < 10000 || min(from[0], from[1], from[2], from[3], from[4]) < 100 || min(reached[1], reached[2], reached[3]) < 100 {
		t.Error(all, from, reached)
	}
}

// P15.1: edges of right systems and of programs.
func TestRight(t *testing.T) {
	all := 0
	for seed := range uint64(1000) {
		s := made(61, seed)
		all += len(asked(t, s, solved(s)))
	}
	for seed := range uint64(100) {
		s := program(61, seed)
		all += len(asked(t, s, solved(s)))
	}
	if all < 1000 {
		t.Error(all)
	}
}

// P15.1: what any edges reach.
func TestReachedReference(t *testing.T) {
	for seed := range uint64(20000) {
		l := anyEdges(generator(62, seed))
		same(t, "Reached", l, graph.Reached(l), wantReached(l))
	}
}

// P15.2: what is told of any facts and edges.
func TestListsReference(t *testing.T) {
	for seed := range uint64(20000) {
		g := generator(63, seed)
		l, edges, n := anyFacts(g), anyEdges(g), number(g)
		var callees, callers, entered []int
		for _, f := range l {
			if is(api.FCall, n)(f) {
				callees = append(callees, f.B)
			}
			if f.Kind == api.FEnter {
				entered = append(entered, f.A)
			}
		}
		for _, e := range edges {
			if e.To == n {
				callers = append(callers, e.Mark)
			}
		}
		same(t, "Callees", []any{n, l}, graph.Callees(l, n), rising(callees))
		same(t, "Callers", []any{n, edges}, graph.Callers(edges, n), rising(callers))
		same(t, "Entered", l, graph.Entered(l), rising(entered))
	}
}
