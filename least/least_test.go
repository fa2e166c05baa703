package least_test

import (
	"slices"
	"strings"
	"testing"

	"gumshoe/api"
	"gumshoe/least"
	"gumshoe/samples"
)

// always are the facts that each round has.
const always = "prop 1 apply 3; prop 1 call 2; behind 1 0; behind 2 1; behind 3 1; enter 0"

// asks is what one round of samples' base with rules has more than the facts and than what is always there.
func asks(t *testing.T, rules string, facts string, want string) {
	t.Helper()
	asksOf(t, samples.With(rules), facts, want)
}

func asksOf(t *testing.T, s api.System, facts string, want string) {
	t.Helper()
	l := sorted(samples.Facts(facts))
	all := sorted(append(samples.Facts(facts+"; "+want), samples.Facts(always)...))
	if missing := minus(samples.Facts(want), l); len(missing) != len(samples.Facts(want)) {
		t.Fatalf("%s stands among %s", want, facts)
	}
	is(t, s, l, all)
}

// P14.1: the chapter's example; what is always there, and nothing.
func TestAlways(t *testing.T) {
	asks(t, "sub 0 1", "enter 0; in 0 4", "in 1 4")
	asksOf(t, samples.Base(), "", "")
	asksOf(t, api.System{Sets: 9, Funs: []api.FunSets{{}}}, "", "")
	asksOf(t, api.System{Sets: 9, Funs: []api.FunSets{{}}}, always, "")
	for f := range strings.SplitSeq(always, "; ") {
		asksOf(t, samples.Base(), f, "")
	}
	asksOf(t, samples.Base(), "prop 9 p 9; behind 9 9; call 9 9; enter 1; any 9 9; in 5 1000001", "")
}

// P14.1: rules of functions that are not entered by these facts ask for nothing, those of the function 0 neither.
func TestEntered(t *testing.T) {
	all := "obj 0 9; fun 0 1; sub 0 1; load 0 p 1; loadx 0 1; store 0 0 1; any 0 1; call 0 1 2 3 9; new 0 2 3 9"
	had := "in 0 2; in 0 4; in 1 8; any 0 2; any 4 7; behind 2 0; behind 4 0"
	asks(t, all, had, "")
	asks(t, all, had+"; enter 1; enter 2", "")
	asks(t, "1: "+strings.ReplaceAll(all, "; ", "; 1: "), had+"; enter 0; enter 2", "")
	asks(t, "2: obj 0 9; obj 1 8; 1: obj 2 7", "enter 2", "in 0 9; behind 9 0")
	asks(t, "2: obj 0 9; obj 1 8; 1: obj 2 7", "enter 1; enter 2", "in 0 9; behind 9 0; in 2 7; behind 7 0")
	asks(t, "fun 0 1; call 0 1 2 3 9; 1: obj 5 8", "enter 0; in 0 4", "behind 4 1; behind 5 0; prop 4 prototype 5; call 9 4; enter 1")
}

// P14.1: rules, each alone; a round does not look at what it asks for itself.
func TestRules(t *testing.T) {
	asks(t, "obj 0 9", "enter 0", "in 0 9; behind 9 0")
	asks(t, "obj 0 1000000", "enter 0", "in 0 1000000; behind 1000000 0")
	asks(t, "obj 0 9; sub 0 1; sub 1 2", "enter 0", "in 0 9; behind 9 0")
	asks(t, "fun 0 2", "enter 0", "in 0 6; prop 6 prototype 7; behind 6 1; behind 7 0")
	asks(t, "sub 0 1; sub 1 2; sub 2 2", "enter 0; in 0 9; in 0 1000001; in 1 8", "in 1 9; in 1 1000001; in 2 8")
	asks(t, "sub 0 1; sub 1 0", "enter 0; in 0 7; in 1 8", "in 0 8; in 1 7")
	asks(t, "store 0 p 1", "enter 0; in 0 7; in 0 8; in 1 8; in 1 9", "prop 7 p 8; prop 7 p 9; prop 8 p 8; prop 8 p 9")
	asks(t, "store 0 p 1", "enter 0; in 0 7; prop 7 q 8; prop 7 p 9", "")
	asks(t, "store 0 p 1", "enter 0; in 1 7", "")
	asks(t, "any 0 1", "enter 0; in 0 7; in 0 8; in 1 8; in 1 9", "any 7 8; any 7 9; any 8 8; any 8 9")
	asks(t, "any 0 0", "enter 0; in 0 0; in 0 1000001", "any 0 0; any 0 1000001; any 1000001 0; any 1000001 1000001")
}

// P14.1: keys, and what stands behind, one behind the other, all by these facts.
func TestKeys(t *testing.T) {
	own := "enter 0; in 0 7; prop 7 p 20; prop 7 q 21; any 7 22; prop 8 p 23; prop 8 q 24; any 8 25"
	asks(t, "load 0 p 1", own, "in 1 20; in 1 22")
	asks(t, "loadx 0 1", own, "in 1 20; in 1 21; in 1 22")
	asks(t, "load 0 r 1", own, "in 1 22")
	asks(t, "load 0 p 1", own+"; behind 7 8", "in 1 20; in 1 22; in 1 23; in 1 25")
	asks(t, "loadx 0 1", own+"; behind 7 8", "in 1 20; in 1 21; in 1 22; in 1 23; in 1 24; in 1 25")
	asks(t, "load 0 p 1", own+"; behind 7 9; behind 9 10; behind 10 8; behind 10 9; behind 8 7", "in 1 20; in 1 22; in 1 23; in 1 25")
	asks(t, "load 0 p 1", own+"; behind 8 7", "in 1 20; in 1 22")
	asks(t, "load 0 call 1; load 0 apply 2; loadx 0 3", "enter 0; in 0 4; behind 4 1", "") // what is always there is not there yet
	asks(t, "load 0 call 1; load 0 apply 2; loadx 0 3", "enter 0; in 0 4; behind 4 1; prop 1 call 2; prop 1 apply 3", "in 1 2; in 2 3; in 3 2; in 3 3")
	asks(t, "load 0 p 0", "enter 0; in 0 7; prop 7 p 8; prop 8 p 9", "in 0 8")
}

// P14.1: calls of functions, and of none.
func TestCalls(t *testing.T) {
	had := "enter 0; in 0 4; in 1 9; in 2 10; in 3 11; in 26 12; in 27 13"
	asks(t, "call 0 1 5 6 20 2 3", had, "call 20 4; enter 1; in 25 9; in 23 10; in 24 11; in 5 12; in 6 13")
	asks(t, "call 0 -1 5 6 20", had, "call 20 4; enter 1; in 5 12; in 6 13")
	asks(t, "call 0 -1 5 6 20 3", had, "call 20 4; enter 1; in 23 11; in 5 12; in 6 13")
	asks(t, "call 0 -1 5 6 20 2 3 1 1 1", had, "call 20 4; enter 1; in 23 10; in 24 11; in 5 12; in 6 13")
	asks(t, "call 1 0 5 6 20 2", had, "") // no function's mark
	asks(t, "call 0 0 5 6 20", "enter 0; in 0 4; in 0 6", "call 20 4; call 20 6; enter 1; enter 2; in 25 4; in 25 6; in 29 4; in 29 6")
	asks(t, "call 0 1 0 0 20 0 0", "enter 0; in 0 0; in 0 1; in 0 5; in 0 7; in 1 9", "")
	s := samples.With("call 0 1 5 6 20 2")
	s.Funs[0].Mark, s.Funs[2].Mark = 8, 4
	asksOf(t, s, "enter 0; in 0 4; in 1 9; in 2 10", "call 20 4; enter 1; enter 2; in 25 9; in 23 10; in 29 9; in 28 10")
	asksOf(t, s, "enter 0; in 0 8; in 1 9; in 2 10", "")
}

// P14.1: constructions.
func TestConstructions(t *testing.T) {
	had := "enter 0; in 0 4; in 2 10; in 3 11; in 26 12; in 27 13"
	asks(t, "new 0 5 6 20 2 3", had, "in 5 20; behind 20 0; call 20 4; enter 1; in 25 20; in 23 10; in 24 11; in 5 12; in 6 13")
	asks(t, "new 0 5 6 20", "enter 0; in 0 4; prop 4 prototype 9; prop 4 p 10; any 4 11; behind 4 7; prop 7 prototype 12; any 7 13; prop 20 prototype 14",
		"in 5 20; behind 20 0; behind 20 9; behind 20 11; behind 20 12; behind 20 13; call 20 4; enter 1; in 25 20")
	asks(t, "new 0 5 6 20", "enter 0; in 0 2; in 0 3; in 0 9", "") // no functions
	asks(t, "new 0 5 6 20", "enter 0; in 0 4; in 0 6; prop 6 prototype 9", "in 5 20; behind 20 0; behind 20 9; call 20 4; call 20 6; enter 1; enter 2; in 25 20; in 29 20")
}

// P14.1: calls of call and of apply.
func TestDevices(t *testing.T) {
	had := "enter 0; in 1 9; in 2 10; in 3 11; in 34 12; in 35 13; in 38 14; in 39 15; "
	asks(t, "call 0 1 5 6 20 2 3", had+"in 0 2", "call 20 2; in 32 9; in 33 10; in 33 11; in 5 12; in 6 13")
	asks(t, "call 0 1 5 6 20 2 3", had+"in 0 3", "call 20 3; in 36 9; in 37 10; in 37 11; in 5 14; in 6 15")
	asks(t, "call 0 -1 5 6 20", had+"in 0 3", "call 20 3; in 5 14; in 6 15")
	none := samples.Base()
	asksOf(t, none, "in 32 4; in 33 9; in 36 4; in 37 9; in 40 10; any 9 11; call 20 4; call 20 9", "")
	call := "in 26 12; in 27 13; in 32 4; in 33 9; in 33 10; in 36 6; in 37 8; in 40 7; prop 8 p 14; any 9 15"
	asksOf(t, none, call+"; call 20 2", "call 20 4; enter 1; in 25 9; in 25 10; in 23 9; in 23 10; in 24 9; in 24 10; in 34 12; in 35 13")
	asksOf(t, none, call+"; call 0 2; call 1000001 2", "call 0 4; call 1000001 4; enter 1; in 25 9; in 25 10; in 23 9; in 23 10; in 24 9; in 24 10; in 34 12; in 35 13")
	apply := "in 30 12; in 31 13; in 32 4; in 33 9; in 36 6; in 37 8; in 37 9; in 40 7; prop 8 p 14; prop 8 q 16; behind 8 17; any 17 18; any 9 15; any 7 19"
	asksOf(t, none, apply+"; call 20 3", "call 20 6; enter 2; in 29 8; in 29 9; in 28 7; in 38 12; in 39 13; in 40 14; in 40 15; in 40 16; in 40 18")
	asksOf(t, none, "in 37 8; prop 8 p 14; call 20 3; call 21 2", "in 40 14")
	asksOf(t, none, "in 32 2; in 32 3; in 33 9; in 34 10; in 35 11; in 38 12; in 39 13; call 20 2", "call 20 3; in 32 9; in 36 9; in 37 9; in 34 12; in 35 13")
	asksOf(t, none, "in 36 2; in 36 3; in 37 9; in 40 14; in 34 10; in 35 11; in 38 12; in 39 13; call 20 3", "call 20 2; in 32 9; in 33 14; in 36 9; in 37 14; in 38 10; in 39 11")
}

// P14.1: Within, of any lists: sorted or not, with facts that come twice, and with facts that are not right.
func TestWithin(t *testing.T) {
	within := func(a, b string, want bool) {
		t.Helper()
		if got := least.Within(samples.Facts(a), samples.Facts(b)); got != want {
			t.Errorf("%s within %s: %v", a, b, got)
		}
	}
	within("", "", true)
	within("", "in 0 4", true)
	within("in 0 4", "", false)
	within("in 0 4; in 0 4", "in 0 4", true)
	within("in 0 4", "in 0 4; in 0 4", true)
	within("in 3 4; enter 1; in 0 4", "in 0 4; in 3 4; enter 2; enter 1", true)
	within("in 3 4; enter 1; in 0 4", "in 0 4; in 3 4; enter 2; enter 0", false)
	within("in 0 4; in 0 5; in 0 6", "in 0 4; in 0 6", false)
	within("in 0 4; in 0 6", "in 0 5; in 0 7; in 0 6; in 0 4", true)
	within("var 0 4", "this 0 4", false)
	f := api.Fact{Kind: -1, A: -2, S: "\xff", B: -3}
	for n, other := range []api.Fact{f, {Kind: -2, A: -2, S: "\xff", B: -3}, {Kind: -1, A: -3, S: "\xff", B: -3}, {Kind: -1, A: -2, S: "\xfe", B: -3}, {Kind: -1, A: -2, S: "\xff", B: -4}, {Kind: -1, A: -2, S: "\xff"}, {}} {
		if got := least.Within([]api.Fact{f}, []api.Fact{other}); got != (n == 0) {
			t.Errorf("%+v within %+v: %v", f, other, got)
		}
	}
}

// P14.1: Within, held against what it says.
func TestWithinReference(t *testing.T) {
	met := map[bool]int{}
	for seed := range uint64(4000) {
		g := generator(43, seed)
		some := func(most int) []api.Fact {
			var l []api.Fact
			for range g.IntN(most) {
				l = append(l, api.Fact{Kind: g.IntN(3) - 1, A: g.IntN(2), S: "pq"[:g.IntN(2)], B: g.IntN(3) - 1})
			}
			return l
		}
		a, b := some(6), some(60)
		want := len(minus(a, b)) == 0
		met[want]++
		if least.Within(a, b) != want || least.Within(sorted(a), b) != want || least.Within(a, sorted(b)) != want || least.Within(sorted(a), sorted(b)) != want {
			t.Fatalf("%v within %v is not %v", a, b, want)
		}
		if !least.Within(a, slices.Concat(b, a, b)) {
			t.Fatalf("%v is not within itself and others", a)
		}
	}
	if met[true] < 500 || met[false] < 500 {
		t.Error(met)
	}
}
