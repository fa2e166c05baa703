package graph_test

import (
	"testing"

	"gumshoe/api"
	"gumshoe/graph"
	"gumshoe/samples"
)

// P15.1: a long way from one function to the next, and many edges from one function.
func TestManyEdges(t *testing.T) {
	var l []api.Edge
	for n := 300000; n > 0; n-- {
		l = append(l, api.Edge{From: n - 1, Mark: 9, To: n}, api.Edge{From: n, Mark: 9}, api.Edge{From: -n, Mark: 9, To: -n - 1})
	}
	if got := graph.Reached(l); len(got) != 300001 || got[300000] != 300000 {
		t.Error(len(got))
	}
	l = nil
	for n := range 1000 {
		for m := range 1000 {
			l = append(l, api.Edge{From: n, Mark: n, To: m})
		}
	}
	if got := graph.Reached(l); len(got) != 1000 {
		t.Error(len(got))
	}
	if got := graph.Callers(l, 5); len(got) != 1000 {
		t.Error(len(got))
	}
}

// P15.1: rules and facts that come ever so often cost no more, nor do functions and marks that no call calls.
func TestManyRules(t *testing.T) {
	s := api.System{Sets: 9, Funs: make([]api.FunSets, 3001)}
	for n := range s.Funs {
		s.Funs[n].Mark = 4 + n/1500*2
	}
	l := samples.Facts("enter 0; enter 1")
	for n := range 100000 {
		s.Rules = append(s.Rules, api.Rule{Kind: api.RCall, F: n % 2, M: 20}, api.Rule{Kind: api.RNew, F: n % 2, M: 20}, api.Rule{Kind: api.RCall, F: 2, M: 21 + n})
		l = append(l, api.Fact{Kind: api.FCall, A: 20, B: 4}, api.Fact{Kind: api.FCall, A: 21 + n, B: 4}, api.Fact{Kind: api.FCall, A: 20, B: 100 + n})
	}
	got := graph.Edges(s, l)
	if len(got) != 2*1499 || got[0] != (api.Edge{Mark: 20, To: 1}) || got[2*1499-1] != (api.Edge{From: 1, Mark: 20, To: 1499}) {
		t.Error(len(got), got[0], got[len(got)-1])
	}
	if reached := graph.Reached(got); len(reached) != 1500 {
		t.Error(len(reached))
	}
	if callees := graph.Callees(l, 20); len(callees) != 100001 {
		t.Error(len(callees))
	}
}

// P15.1: one call's mark in many functions, each with edges of its own; what the call calls is looked for once.
func TestManyFunctions(t *testing.T) {
	s := api.System{Sets: 9}
	var l []api.Fact
	for n := range 1001 {
		s.Funs = append(s.Funs, api.FunSets{Mark: 4 + 2*n})
		s.Rules = append(s.Rules, api.Rule{Kind: api.RCall, F: 1000 - n, M: 9 + n%3}, api.Rule{Kind: api.RCall, F: 1000 - n, M: 9})
		l = append(l, api.Fact{Kind: api.FEnter, A: n}, api.Fact{Kind: api.FCall, A: 9 + n%2, B: 4 + 2*n})
	}
	for n := range 300000 { // marks of no function
		l = append(l, api.Fact{Kind: api.FCall, A: 9, B: 100000 + n})
	}
	at := 0
	got := graph.Edges(s, l)
	for from := range 1001 {
		for mark := 9; mark < 11; mark++ { // of the mark 11 none is called
			for to := 1; to <= 1000; to++ {
				if 9+to%2 != mark || mark == 10 && (1000-from)%3 != 1 {
					continue
				}
				if at == len(got) || got[at] != (api.Edge{From: from, Mark: mark, To: to}) {
					t.Fatal(from, mark, to, at, len(got))
				}
				at++
			}
		}
	}
	if at != len(got) {
		t.Error(at, len(got))
	}
}
