package solve_test

import (
	"slices"
	"strings"
	"testing"

	"gumshoe/api"
	"gumshoe/samples"
	"gumshoe/solve"
)

// most is how many facts may be asked for.
const most = 10000000

// is asks for the facts of a system.
func is(t *testing.T, s api.System, want []api.Fact) {
	t.Helper()
	if !solve.Right(s) {
		t.Fatalf("%+v is not right", s)
	}
	got, e := solve.Solve(s, most)
	if e != api.OK || !slices.Equal(got, want) {
		t.Fatalf("%+v has (%d) %v, not %v", s, e, minus(got, want), minus(want, got))
	}
}

// minus are the facts of one list that another one has not.
func minus(a, b []api.Fact) []api.Fact {
	var l []api.Fact
	for _, f := range a {
		if !slices.Contains(b, f) {
			l = append(l, f)
		}
	}
	return l
}

// always are the facts that each system has.
func always() []api.Fact {
	return []api.Fact{{Kind: api.FProp, A: 1, S: "apply", B: 3}, {Kind: api.FProp, A: 1, S: "call", B: 2},
		{Kind: api.FProto, A: 1}, {Kind: api.FProto, A: 2, B: 1}, {Kind: api.FProto, A: 3, B: 1}, {Kind: api.FEnter}}
}

// extra are the facts of a system, but those that are always there, and of FIn just those of some sets, if some are named.
func extra(t *testing.T, s api.System, sets ...int) string {
	t.Helper()
	got, e := solve.Solve(s, most)
	if e != api.OK || len(minus(always(), got)) > 0 {
		t.Fatalf("%+v has (%d) %v", s, e, got)
	}
	is(t, s, reference(s))
	var l []string
	for _, f := range minus(got, always()) {
		if f.Kind != api.FIn || len(sets) == 0 || slices.Contains(sets, f.A) {
			l = append(l, samples.Told(f))
		}
	}
	return strings.Join(l, "; ")
}

// has asks for all facts of base with rules, but those that are always there.
func has(t *testing.T, rules string, want string) {
	t.Helper()
	if got := extra(t, samples.With(rules)); got != want {
		t.Errorf("%s: it has\n%s, not\n%s", rules, got, want)
	}
}

// hasIn asks for what some sets have.
func hasIn(t *testing.T, rules string, want string, sets ...int) {
	t.Helper()
	var l []string
	for f := range strings.SplitSeq(extra(t, samples.With(rules), sets...), "; ") {
		if strings.HasPrefix(f, "in ") {
			l = append(l, f)
		}
	}
	if got := strings.Join(l, "; "); got != want {
		t.Errorf("%s: of %v it has\n%s, not\n%s", rules, sets, got, want)
	}
}

// P13.1: what is always there, and the chapter's example.
func TestAlways(t *testing.T) {
	is(t, api.System{Sets: 9, Funs: []api.FunSets{{}}}, always())
	is(t, samples.Base(), always())
	has(t, "obj 0 4; sub 0 1", "behind 4 0; in 0 4; in 1 4")
	if got := extra(t, ruled("var a = {}")); got != "behind 4 0; in 2 4; in 3 4" {
		t.Error(got)
	}
}

// P13.1: the rules of what is at hand, and of keys.
func TestSets(t *testing.T) {
	has(t, "obj 0 9", "behind 9 0; in 0 9")
	has(t, "obj 0 1000000; obj 0 4", "behind 4 0; behind 1000000 0; in 0 4; in 0 1000000")
	has(t, "fun 0 1", "prop 4 prototype 5; behind 4 1; behind 5 0; in 0 4")
	has(t, "fun 0 2; fun 1 1", "prop 4 prototype 5; prop 6 prototype 7; behind 4 1; behind 5 0; behind 6 1; behind 7 0; in 0 6; in 1 4")
	has(t, "sub 0 1; sub 1 2; obj 0 9", "behind 9 0; in 0 9; in 1 9; in 2 9")
	has(t, "sub 1 2; sub 2 1; sub 2 2; obj 1 9; obj 2 8", "behind 8 0; behind 9 0; in 1 8; in 1 9; in 2 8; in 2 9")
	has(t, "sub 0 1; obj 1 9", "behind 9 0; in 1 9")
}

func TestKeys(t *testing.T) {
	hasIn(t, "obj 0 8; obj 1 9; store 0 p 1; load 0 p 2; load 0 q 3; loadx 0 4", "in 2 9; in 4 9", 2, 3, 4)
	hasIn(t, "obj 0 8; obj 1 9; any 0 1; load 0 p 2; load 0 q 3; loadx 0 4", "in 2 9; in 3 9; in 4 9", 2, 3, 4)
	hasIn(t, "load 0 p 2; loadx 0 3; store 0 p 1; any 0 4; obj 4 10; obj 1 9; obj 0 8", "in 2 9; in 2 10; in 3 9; in 3 10", 2, 3)
	has(t, "obj 0 8; obj 1 9; store 0 p 1; any 1 0", "prop 8 p 9; behind 8 0; behind 9 0; any 9 8; in 0 8; in 1 9")
	has(t, "obj 0 8; obj 0 9; store 0 p 0", "prop 8 p 8; prop 8 p 9; prop 9 p 8; prop 9 p 9; behind 8 0; behind 9 0; in 0 8; in 0 9")
	has(t, "obj 0 8; store 1 p 0; store 0 p 1; any 0 1; any 1 0; load 0 p 2; load 1 p 2; loadx 1 2", "behind 8 0; in 0 8")
	empty := samples.With("obj 0 8; obj 1 9")
	empty.Rules = append(empty.Rules, api.Rule{Kind: api.RStore, X: 0, Y: 1}, api.Rule{Kind: api.RLoad, X: 0, Y: 2}, api.Rule{Kind: api.RLoad, X: 0, Y: 3, S: "p"})
	if got := extra(t, empty); got != "prop 8  9; behind 8 0; behind 9 0; in 0 8; in 1 9; in 2 9" {
		t.Error(got)
	}
}

// P13.1: keys are looked for behind marks, and what is at any key of these.
func TestBehind(t *testing.T) {
	hasIn(t, "fun 0 1; load 0 call 1; load 0 apply 2; load 0 prototype 3; loadx 0 4", "in 1 2; in 2 3; in 3 5; in 4 2; in 4 3; in 4 5", 1, 2, 3, 4)
	hasIn(t, "fun 0 1; load 0 call 1; load 1 apply 2; load 2 call 3; loadx 3 4", "in 1 2; in 2 3; in 3 2; in 4 2; in 4 3", 1, 2, 3, 4)
	hasIn(t, "obj 0 9; load 0 call 1; loadx 0 2", "", 1, 2)
	made := "fun 0 1; new 0 1 2 9; load 0 prototype 3; obj 4 10; obj 5 11; "
	hasIn(t, made+"load 1 p 6; loadx 1 7", "", 6, 7)
	hasIn(t, made+"load 1 p 6; loadx 1 7; store 3 p 4; any 3 5", "in 6 10; in 6 11; in 7 10; in 7 11", 6, 7)
	hasIn(t, made+"load 1 p 6; loadx 1 7; store 3 q 4", "in 7 10", 6, 7)
	hasIn(t, made+"load 1 p 6; loadx 1 7; store 0 p 4; any 0 5", "", 6, 7)
	hasIn(t, made+"load 1 p 6; loadx 1 7; store 5 p 4; any 0 5", "in 6 10; in 7 10", 6, 7) // behind 9 is whatever is at any key of 4
	round := "fun 0 1; store 0 prototype 1; new 0 1 2 9; "                                 // 9 stands behind itself
	hasIn(t, round+"obj 4 10; store 1 p 4; load 1 p 5; loadx 1 6; load 1 q 7", "in 5 10; in 6 10", 5, 6, 7)
}

// P13.1: rules of functions that are not entered ask for nothing.
func TestEntered(t *testing.T) {
	has(t, "1: obj 0 9; 2: obj 1 9; 1: sub 2 3; obj 2 8", "behind 8 0; in 2 8")
	has(t, "fun 0 1; 1: obj 1 9", "prop 4 prototype 5; behind 4 1; behind 5 0; in 0 4")
	call := "fun 0 1; call 0 -1 5 6 9; 1: fun 1 2; 2: obj 3 10"
	has(t, call, "prop 4 prototype 5; prop 6 prototype 7; behind 4 1; behind 5 0; behind 6 1; behind 7 0; call 9 4; enter 1; in 0 4; in 1 6")
	has(t, call+"; 1: new 1 5 5 11", "prop 4 prototype 5; prop 6 prototype 7; behind 4 1; behind 5 0; behind 6 1; behind 7 0; behind 10 0; behind 11 0; behind 11 7; call 9 4; call 11 6; enter 1; enter 2; in 0 4; in 1 6; in 3 10; in 5 11; in 29 11")
}
