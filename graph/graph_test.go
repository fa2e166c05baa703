package graph_test

import (
	"slices"
	"testing"

	"gumshoe/api"
	"gumshoe/graph"
	"gumshoe/samples"
)

// tells asks for the edges of samples' base, whose functions 1, 2 have the marks 4, 6, with rules.
func tells(t *testing.T, rules string, facts string, want string) {
	t.Helper()
	same(t, "Edges", rules+" by "+facts, graph.Edges(samples.With(rules), samples.Facts(facts)), edges(want))
}

// P15.1: the chapter's example, and others: functions that no edge goes to from one that is reached are not.
func TestReached(t *testing.T) {
	for text, want := range map[string]string{
		"0 9 2; 2 11 3; 1 12 4":              "0 2 3",
		"":                                   "0",
		"0 9 0":                              "0",
		"1 9 2; 2 9 1":                       "0",
		"0 9 1; 1 9 2; 2 9 0; 2 9 1":         "0 1 2",
		"3 9 4; 2 9 3; 1 9 2; 0 9 1":         "0 1 2 3 4",
		"0 9 500; 500 9 -3; -3 9 1":          "-3 0 1 500",
		"0 9 1; 0 9 1; 0 10 1; 1 9 2; 0 8 3": "0 1 2 3",
		"0 9 7; 0 9 5; 0 9 6":                "0 5 6 7",
		"-1 9 5; 1 9 6":                      "0",
	} {
		same(t, "Reached", text, graph.Reached(edges(text)), numbers(want))
	}
	same(t, "Reached", "nil", graph.Reached(nil), []int{0})
}

// P15.1: which rules, facts and functions have edges.
func TestEdges(t *testing.T) {
	tells(t, "call 0 -1 5 6 20", "enter 0; call 20 4", "0 20 1")
	tells(t, "call 0 3 5 6 20 1 2", "enter 0; call 20 6", "0 20 2")
	tells(t, "new 0 5 6 20", "enter 0; call 20 4", "0 20 1")
	tells(t, "call 0 -1 5 6 20", "enter 0; call 20 4; call 20 6", "0 20 1; 0 20 2")
	tells(t, "call 0 -1 5 6 20", "call 20 6; call 20 4; enter 0", "0 20 1; 0 20 2")
	tells(t, "1: call 0 -1 5 6 20; 2: new 0 5 6 21", "enter 1; enter 2; call 20 4; call 21 4", "1 20 1; 2 21 1")
	for _, facts := range []string{"", "enter 0", "call 20 4", "enter 1; call 20 4", "enter 0; call 21 4", "enter 0; call 4 20", "enter 0; call 20 5", "enter 0; call 20 2; call 20 3; call 20 0", "in 0 0; in 20 4; any 20 4; behind 20 4; prop 20 call 4; enter 0", "this 0 0; var 0 0; call 20 4"} {
		tells(t, "call 0 -1 5 6 20", facts, "")
	}
	tells(t, "obj 0 20; fun 0 1; sub 0 20; load 0 p 20; loadx 0 20; store 0 p 20; any 0 20", "enter 0; call 20 4; call 0 4", "")
	for kind := -2; kind < 14; kind++ {
		s := samples.Base()
		s.Rules = []api.Rule{{Kind: kind, M: 20}}
		want := ""
		if kind == api.RCall || kind == api.RNew {
			want = "0 20 1"
		}
		same(t, "Edges", kind, graph.Edges(s, samples.Facts("enter 0; call 20 4")), edges(want))
	}
}

// P15.1: edges are sorted by From, Mark, To, each once, whatever rules and facts come twice.
func TestSorted(t *testing.T) {
	tells(t, "2: call 0 -1 5 6 20; 1: call 0 -1 5 6 22; 1: call 0 -1 5 6 21; call 0 -1 5 6 30", "enter 2; enter 0; enter 1; call 30 6; call 22 4; call 21 6; call 21 4; call 20 4", "0 30 2; 1 21 1; 1 21 2; 1 22 1; 2 20 1")
	tells(t, "call 0 -1 5 6 20; call 0 -1 5 6 20; call 1 -1 7 8 20; new 3 5 6 20; call 0 -1 5 6 19; call 0 -1 5 6 20", "enter 0; enter 0; call 20 4; call 20 4; call 19 4; call 20 4", "0 19 1; 0 20 1")
	tells(t, "call 0 -1 5 6 20; 1: call 0 -1 5 6 20; 2: call 0 -1 5 6 20", "enter 0; enter 2; call 20 4; call 20 6", "0 20 1; 0 20 2; 2 20 1; 2 20 2")
}

// P15.1: functions that have one mark; the function 0 is called by none, whatever its mark is.
func TestMarks(t *testing.T) {
	s := api.System{Sets: 9, Funs: []api.FunSets{{Mark: 4}, {Mark: 6}, {Mark: 4}, {Mark: 2}, {Mark: 6}, {Mark: 4}}, Rules: []api.Rule{{Kind: api.RCall, M: 20}}}
	for facts, want := range map[string]string{
		"call 20 4":                       "0 20 2; 0 20 5",
		"call 20 6":                       "0 20 1; 0 20 4",
		"call 20 6; call 20 4; call 20 2": "0 20 1; 0 20 2; 0 20 3; 0 20 4; 0 20 5",
		"call 20 0; call 20 3":            "",
	} {
		same(t, "Edges", facts, graph.Edges(s, samples.Facts("enter 0; "+facts)), edges(want))
	}
}

// P15.1: rules of functions that there are none of have no edges.
func TestNoFunction(t *testing.T) {
	for f := -3; f < 6; f++ {
		s := samples.Base()
		s.Rules = []api.Rule{{Kind: api.RCall, F: f, M: 20}, {Kind: api.RNew, F: f, M: 20}}
		var want []api.Edge
		if f >= 0 && f < 3 {
			want = []api.Edge{{From: f, Mark: 20, To: 1}}
		}
		same(t, "Edges", f, graph.Edges(s, append(samples.Facts("call 20 4"), api.Fact{Kind: api.FEnter, A: f})), want)
		s.Funs = s.Funs[:1]
		same(t, "Edges", f, graph.Edges(s, append(samples.Facts("call 20 4; call 20 0"), api.Fact{Kind: api.FEnter, A: f})), nil)
		s.Funs = nil
		same(t, "Edges", f, graph.Edges(s, append(samples.Facts("call 20 4; call 20 0"), api.Fact{Kind: api.FEnter, A: f})), nil)
	}
	same(t, "Edges", "nothing", graph.Edges(api.System{}, nil), nil)
}

// P15.2: what calls call, which calls call, what is entered; rising, each once, of any lists.
func TestLists(t *testing.T) {
	l := samples.Facts("call 20 9; enter 7; call 20 4; call 21 5; enter 2; call 20 9; call 20 -1; in 20 8; any 20 8; behind 20 8; prop 20 call 8; enter 7; enter -4; call 0 3")
	same(t, "Callees", 20, graph.Callees(l, 20), numbers("-1 4 9"))
	same(t, "Callees", 21, graph.Callees(l, 21), numbers("5"))
	same(t, "Callees", 0, graph.Callees(l, 0), numbers("3"))
	same(t, "Callees", 22, graph.Callees(l, 22), nil)
	same(t, "Entered", l, graph.Entered(l), numbers("-4 2 7"))
	same(t, "Entered", l, graph.Entered(l[:1]), nil)
	e := edges("0 30 2; 5 9 2; 0 12 3; 1 30 2; 2 8 0; 0 -7 2; 0 1 -2")
	same(t, "Callers", 2, graph.Callers(e, 2), numbers("-7 9 30"))
	same(t, "Callers", 3, graph.Callers(e, 3), numbers("12"))
	same(t, "Callers", 0, graph.Callers(e, 0), numbers("8"))
	same(t, "Callers", -2, graph.Callers(e, -2), numbers("1"))
	same(t, "Callers", 5, graph.Callers(e, 5), nil)
	same(t, "Callers", "none", graph.Callers(nil, 0), nil)
	same(t, "Callees", "none", graph.Callees(nil, 0), nil)
	same(t, "Entered", "none", graph.Entered(nil), nil)
}

// P15.1: of a text's program.
func TestText(t *testing.T) {
	s := ruled(samples.Read("function f(g) { g(); } function g() { new f(g); } function h() { f(); } f.call(null, g); f.apply(null, {length: 1})"))
	l := solved(s)
	got := graph.Edges(s, l)
	// the marks: f 4, g() 6, g 7, new f(g) 9, h 10, f() 12, f.call 13, f.apply 14
	if want := edges("0 13 1; 0 14 1; 1 6 2; 2 9 1"); !slices.Equal(got, want) {
		t.Errorf("%v, not %v", got, want)
	}
	same(t, "Reached", got, graph.Reached(got), numbers("0 1 2"))
	same(t, "Entered", got, graph.Entered(l), numbers("0 1 2"))
	same(t, "Callees", got, graph.Callees(l, 13), numbers("2 4"))
	same(t, "Callers", got, graph.Callers(got, 1), numbers("9 13 14"))
}
