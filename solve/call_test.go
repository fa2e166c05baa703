package solve_test

import (
	"testing"

	"gumshoe/api"
	"gumshoe/samples"
)

// P13.1: what calls hand over, give and throw.
func TestCalls(t *testing.T) {
	objects := "obj 1 9; obj 2 10; obj 3 11; obj 4 12; "
	hasIn(t, objects+"fun 0 1; call 0 1 5 6 20 2 3 4", "in 23 10; in 24 11; in 25 9", 5, 6, 23, 24, 25, 26, 27)
	hasIn(t, objects+"fun 0 1; call 0 -1 5 6 20 2", "in 23 10", 5, 6, 23, 24, 25, 26, 27)
	hasIn(t, objects+"fun 0 1; call 0 -1 5 6 20", "", 5, 6, 23, 24, 25, 26, 27)
	hasIn(t, objects+"fun 0 1; call 0 -1 5 6 20; 1: sub 1 26; 1: sub 2 27", "in 5 9; in 6 10", 5, 6, 23, 24, 25)
	hasIn(t, objects+"fun 0 1; fun 0 2; call 0 1 5 6 20 2 3; sub 4 26; sub 3 31", "in 5 12; in 6 11; in 23 10; in 24 11; in 25 9; in 28 10; in 29 9", 5, 6, 23, 24, 25, 28, 29)
	has(t, "obj 0 9; obj 1 10; call 0 1 5 6 20 1", "behind 9 0; behind 10 0; in 0 9; in 1 10") // no function's mark
	has(t, "call 0 -1 5 6 20; sub 5 0", "")
}

// P13.1: functions that have the same mark are called alike; the function 0 is not called, whatever its mark is.
func TestMarksOfFunctions(t *testing.T) {
	s := samples.With("fun 0 1; obj 1 9; call 0 1 5 6 20 1; obj 2 8; call 2 -1 5 6 21; new 2 5 6 22")
	s.Funs[0].Mark, s.Funs[2].Mark = 8, 4
	if got := extra(t, s, 0, 1, 5, 6, 28, 29); got != "prop 4 prototype 5; behind 4 1; behind 5 0; behind 8 0; behind 9 0; call 20 4; enter 1; enter 2; in 0 4; in 1 9; in 28 9; in 29 9" {
		t.Error(got)
	}
	s.Rules[5].X = 0
	if got := extra(t, s, 5, 25, 29); got != "prop 4 prototype 5; behind 4 1; behind 5 0; behind 8 0; behind 9 0; behind 22 0; behind 22 5; call 20 4; call 22 4; enter 1; enter 2; in 5 22; in 25 9; in 25 22; in 29 9; in 29 22" {
		t.Error(got)
	}
	s = samples.With("obj 0 4; call 0 -1 5 6 20") // the mark alone counts, wherever it comes from
	if got := extra(t, s); got != "behind 4 0; call 20 4; enter 1; in 0 4" {
		t.Error(got)
	}
}

// P13.1: constructions.
func TestConstructions(t *testing.T) {
	hasIn(t, "fun 0 1; obj 1 9; new 0 5 6 20 1; sub 1 26; fun 7 2; sub 7 27", "in 5 9; in 5 20; in 6 6; in 23 9; in 25 20", 5, 6, 23, 24, 25)
	has(t, "fun 0 1; new 0 5 6 20", "prop 4 prototype 5; behind 4 1; behind 5 0; behind 20 0; behind 20 5; call 20 4; enter 1; in 0 4; in 5 20; in 25 20")
	has(t, "obj 0 9; new 0 5 6 20", "behind 9 0; in 0 9")
	hasIn(t, "fun 0 1; load 0 call 1; load 0 apply 1; new 1 5 6 20", "in 1 2; in 1 3", 1, 5, 6, 32, 33, 36)
	behind := func(rules string, want string) {
		t.Helper()
		l := ""
		s := samples.With("fun 0 1; obj 1 9; new 0 5 6 20; " + rules)
		for _, f := range minus(reference(s), reference(samples.With("fun 0 1; obj 1 9; new 0 5 6 20"))) {
			if f.Kind == api.FProto {
				l += samples.Told(f) + ";"
			}
		}
		if l != want {
			t.Errorf("%s: %s, not %s", rules, l, want)
		}
		is(t, s, reference(s))
	}
	behind("store 0 prototype 1", "behind 20 9;")
	behind("store 0 p 1", "")
	behind("any 0 1", "behind 20 9;")
	behind("new 0 5 6 21; store 5 prototype 1", "behind 21 0;behind 21 5;")
	behind("load 0 call 2; load 2 p 3; call 2 0 7 8 23", "")
	behind("obj 0 6; new 0 5 6 7; store 5 prototype 1", "behind 6 0;behind 7 0;behind 7 5;")                                         // 6 is a function's mark, without a `prototype`
	behind("new 0 8 6 6; new 8 7 6 21", "behind 6 0;behind 6 5;behind 21 0;")                                                        // 6 comes to be by a construction
	behind("new 0 8 6 6; load 0 prototype 10; store 10 prototype 1; new 8 7 6 21", "behind 6 0;behind 6 5;behind 21 0;behind 21 9;") // it has `prototype` behind it
}

// fun is a text in which f, called with call or apply, is of the mark 4.
const fun = "function f(a, b) { this.p = a; this.q = b; if (a) { throw b } return a } "

// of asks for what a fact of a text's program is to say.
func of(t *testing.T, text string, want ...api.Fact) {
	t.Helper()
	s := ruled(text)
	l := reference(s)
	is(t, s, l)
	if missing := minus(want, l); len(missing) > 0 {
		t.Errorf("%s has not %v, but %v", text, missing, l)
	}
}

// not asks for what they are not to say.
func not(t *testing.T, text string, want ...api.Fact) {
	t.Helper()
	if missing := minus(want, reference(ruled(text))); len(missing) != len(want) {
		t.Errorf("%s has not just %v", text, missing)
	}
}

func at(mark int, key string, b int) api.Fact {
	return api.Fact{Kind: api.FProp, A: mark, S: key, B: b}
}

func calls(mark int, b int) api.Fact { return api.Fact{Kind: api.FCall, A: mark, B: b} }

func entered(fun int) api.Fact { return api.Fact{Kind: api.FEnter, A: fun} }

// P13.1: call and apply, and calls of these by one another.
func TestDevices(t *testing.T) {
	// f 4 (5), objects 6 7 8 (in the order of the text), calls behind them
	of(t, fun+"f.call({}, {}, {})", calls(6, 2), calls(6, 4), entered(1), at(7, "p", 7), at(7, "p", 8), at(7, "q", 9), at(8, "p", 9))
	not(t, fun+"f.call({}, {}, {})", calls(6, 3), at(7, "r", 8), at(4, "p", 7), entered(2))
	of(t, fun+"f.apply({}, {0: {}, r: {}})", calls(6, 3), calls(6, 4), entered(1), at(7, "p", 9), at(7, "q", 10), at(8, "p", 9))
	not(t, fun+"f.apply({}, {0: {}, r: {}})", calls(6, 2), at(7, "p", 7), at(7, "p", 8))
	of(t, fun+"f.call.call(f, {}, {})", calls(6, 2), calls(6, 4), at(7, "p", 8))
	of(t, fun+"f.call.apply(f, {0: {}, 1: {}})", calls(6, 3), calls(6, 2), calls(6, 4), entered(1), at(8, "p", 9))
	of(t, fun+"f.apply.call(f, {}, {0: {}})", calls(6, 2), calls(6, 3), calls(6, 4), entered(1), at(7, "p", 9))
	of(t, fun+"f.apply.apply(f, {0: {}, 1: {0: {}}})", calls(6, 3), calls(6, 4), entered(1), at(8, "p", 10))
	not(t, fun+"({}).call(f)", entered(1), calls(7, 4))
	not(t, fun+"f.p(f)", entered(1))
	not(t, fun+"var a = f.call; a(f)", entered(1), calls(6, 4))
	of(t, fun+"var a = f.call; a(f)", calls(6, 2))
	of(t, fun+"var a = f.call; a(f); f.apply(f)", calls(6, 2), calls(7, 3), calls(7, 4), entered(1))
	not(t, fun+"var a = f.call; a(f); f.apply(f)", calls(6, 4), calls(7, 2))
	of(t, fun+"f.call(); f.call({})", calls(6, 4), calls(7, 4))
}

// P13.1: a device's sets: what is called by call or by apply, of which mark so ever, is called alike.
func TestDevicesSets(t *testing.T) {
	call := "fun 0 1; load 0 call 1; load 0 apply 2; obj 3 9; obj 4 10; obj 7 11; store 4 p 7; sub 3 26; sub 4 27; "
	all := []int{5, 6, 23, 24, 25, 32, 33, 34, 35, 36, 37, 38, 39, 40}
	hasIn(t, call+"call 1 0 5 6 20 3 4", "in 5 9; in 6 10; in 23 9; in 23 10; in 24 9; in 24 10; in 25 9; in 25 10; in 32 4; in 33 9; in 33 10; in 34 9; in 35 10", all...)
	hasIn(t, call+"call 2 0 5 6 20 3 4", "in 5 9; in 6 10; in 23 11; in 24 11; in 25 9; in 25 10; in 36 4; in 37 9; in 37 10; in 38 9; in 39 10; in 40 11", all...)
	hasIn(t, call+"call 1 -1 5 6 20 3 4", "in 33 9; in 33 10", all...)
	hasIn(t, call+"call 2 -1 5 6 20 3 4", "in 37 9; in 37 10; in 40 11", all...)
	hasIn(t, call+"call 1 1 5 6 20 0", "in 5 9; in 6 10; in 23 4; in 24 4; in 25 4; in 32 2; in 32 4; in 33 4; in 34 9; in 35 10", all...)
	hasIn(t, call+"call 1 2 5 6 20 0", "in 5 9; in 6 10; in 23 2; in 23 3; in 23 5; in 24 2; in 24 3; in 24 5; in 25 4; in 32 3; in 33 4; in 34 9; in 35 10; in 36 4; in 37 4; in 38 9; in 39 10; in 40 2; in 40 3; in 40 5", all...)
	hasIn(t, call+"call 2 1 5 6 20 0", "in 5 9; in 6 10; in 23 2; in 23 3; in 23 5; in 24 2; in 24 3; in 24 5; in 25 2; in 25 3; in 25 5; in 32 4; in 33 2; in 33 3; in 33 5; in 34 9; in 35 10; in 36 2; in 37 4; in 38 9; in 39 10; in 40 2; in 40 3; in 40 5", all...)
	hasIn(t, call+"call 2 2 5 6 20 0", "in 5 9; in 6 10; in 23 2; in 23 3; in 23 5; in 24 2; in 24 3; in 24 5; in 25 2; in 25 3; in 25 4; in 25 5; in 32 2; in 32 3; in 32 4; in 32 5; in 33 2; in 33 3; in 33 5; in 34 9; in 35 10; in 36 2; in 36 3; in 36 4; in 36 5; in 37 2; in 37 3; in 37 4; in 37 5; in 38 9; in 39 10; in 40 2; in 40 3; in 40 5", all...)
	hasIn(t, "obj 32 4; obj 36 6; obj 37 9; any 37 37; loadx 37 3", "in 3 9", 3, 23, 28, 29, 40) // nothing is called, and nothing spread
}
