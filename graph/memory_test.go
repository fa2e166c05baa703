package graph_test

import (
	"fmt"
	"slices"
	"testing"

	"gumshoe/api"
	"gumshoe/graph"
)

// spared is a list with spare room, filled.
func spared[T any](l []T, with T) []T {
	return append(slices.Clone(l), with, with)[:len(l)]
}

func fill[T any](l []T, with T) {
	l = l[:cap(l)]
	for i := range l {
		l[i] = with
	}
}

var (
	wrongFact = api.Fact{Kind: api.FEnter, A: -7, S: "wrong", B: -7}
	wrongEdge = api.Edge{From: -7, Mark: -7, To: -7}
	wrongRule = api.Rule{Kind: api.RCall, M: -7}
	wrongFun  = api.FunSets{Mark: -7}
)

// handed is what calls are handed, with spare room.
type handed struct {
	s api.System
	l []api.Fact
	e []api.Edge
}

func newHanded(kind uint64, seed uint64) handed {
	g := generator(kind, seed)
	h := handed{anySystem(g), spared(anyFacts(g), wrongFact), spared(anyEdges(g), wrongEdge)}
	h.s.Funs, h.s.Rules = spared(h.s.Funs, wrongFun), spared(h.s.Rules, wrongRule)
	return h
}

// whole is all of it, spare room too, told.
func (h handed) whole() string {
	return fmt.Sprintf("%+v %+v %+v %+v %+v", h.s.Sets, h.s.Funs[:cap(h.s.Funs)], h.s.Rules[:cap(h.s.Rules)], h.l[:cap(h.l)], h.e[:cap(h.e)])
}

func (h handed) spoil() {
	fill(h.s.Funs, wrongFun)
	fill(h.s.Rules, wrongRule)
	fill(h.l, wrongFact)
	fill(h.e, wrongEdge)
}

// answers are those of all calls.
type answers struct {
	edges []api.Edge
	lists [][]int
}

func (h handed) answers() answers {
	return answers{graph.Edges(h.s, h.l), [][]int{graph.Reached(h.e), graph.Callees(h.l, 2), graph.Callers(h.e, 2), graph.Entered(h.l)}}
}

func (a answers) spoil() {
	fill(a.edges, wrongEdge)
	for _, l := range a.lists {
		fill(l, -7)
	}
}

// R3, R4: what is handed in is neither written into, nor its spare room, nor kept; answers are new; calls hang on nothing else.
func TestMemory(t *testing.T) {
	for seed := range uint64(3000) {
		h := newHanded(64, seed)
		was := h.whole()
		first, second, third := h.answers(), h.answers(), h.answers()
		if h.whole() != was {
			t.Fatalf("%s was changed", was)
		}
		want := fmt.Sprint(first)
		second.spoil()
		if h.whole() != was {
			t.Fatalf("an answer is a part of %s", was)
		}
		h.spoil()
		if fmt.Sprint(first) != want || fmt.Sprint(third) != want {
			t.Fatalf("answers of %s hang on another one, or on what was handed in", was)
		}
	}
}

// R3: nil and empty lists are one.
func TestEmpty(t *testing.T) {
	for _, s := range []api.System{{}, {Funs: []api.FunSets{}, Rules: []api.Rule{}}, {Sets: 9, Funs: []api.FunSets{{}, {Mark: 4}}, Rules: []api.Rule{}}, {Funs: []api.FunSets{}, Rules: []api.Rule{{Kind: api.RCall}}}} {
		for _, l := range [][]api.Fact{nil, {}, {{Kind: api.FEnter}}, {{Kind: api.FEnter}, {Kind: api.FCall}}} {
			same(t, "Edges", s, graph.Edges(s, l), nil)
		}
	}
	same(t, "Reached", "none", graph.Reached([]api.Edge{}), []int{0})
	same(t, "Callers", "none", graph.Callers([]api.Edge{}, 0), nil)
	same(t, "Callees", "none", graph.Callees([]api.Fact{}, 0), nil)
	same(t, "Entered", "none", graph.Entered([]api.Fact{}), nil)
}
