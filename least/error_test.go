package least_test

import (
	"math"
	"slices"
	"testing"

	"gumshoe/api"
	"gumshoe/least"
	"gumshoe/samples"
)

// told asks what all functions tell of a system and of facts: api.OK, if they are right.
func told(t *testing.T, what string, s api.System, l []api.Fact, want api.Errno) {
	t.Helper()
	if got := least.Right(s, l); got != (want == api.OK) {
		t.Errorf("%s: %+v: Right is %v", what, l, got)
	}
	if round, e := least.Round(s, l); e != want || e != api.OK && len(round) > 0 {
		t.Errorf("%s: %+v: Round tells %d, %v", what, l, e, round)
	}
	if closed, e := least.Closed(s, l); e != want || e != api.OK && closed {
		t.Errorf("%s: %+v: Closed tells %v, %d", what, l, closed, e)
	}
}

// right asks whether facts are, for samples' base with a rule.
func right(t *testing.T, what string, want bool, l ...api.Fact) {
	t.Helper()
	e := api.OK
	if !want {
		e = api.ErrFact
	}
	told(t, what, samples.With("sub 0 1"), l, e)
}

// numbers are those around a greatest one that may be, and the extremes.
func numbers(most int) []int {
	return []int{math.MinInt, math.MinInt + 1, -1000002, -2, -1, 0, 1, 2, most - 1, most, most + 1, most + 2, 1000000, 1000001, 1000002, 1 << 30, 1<<30 + 1, 1 << 32, math.MaxInt - 1, math.MaxInt}
}

// P14.1: which numbers facts may have.
func TestNumbers(t *testing.T) {
	const far = 1000001
	for kind, limits := range map[int][2]int{api.FProp: {far, far}, api.FProto: {far, far}, api.FCall: {far, far}, api.FEnter: {2, 0}, api.FAny: {far, far}, api.FIn: {40, far}} {
		f := api.Fact{Kind: kind}
		right(t, "noughts", true, f)
		for _, n := range numbers(limits[0]) {
			g := f
			g.A = n
			right(t, "A", n >= 0 && n <= limits[0], g)
			g.A, g.B = limits[0], limits[1]
			right(t, "the greatest ones", true, g)
		}
		for _, n := range numbers(limits[1]) {
			g := f
			g.B = n
			right(t, "B", n >= 0 && n <= limits[1], g)
		}
		for _, key := range []string{"p", "\x00", "prototype", "\xff\xfe"} {
			g := f
			g.S = key
			right(t, "a key", kind == api.FProp, g)
		}
	}
}

// P14.1: which kinds facts may have.
func TestKinds(t *testing.T) {
	for _, kind := range append(numbers(9), 3, 4, 5, 6, 7, 8, 9, 10, 11, 99, 100, 101, 102, 103, 104, 105) {
		want := slices.Contains([]int{3, 4, 5, 6, 8, 9}, kind)
		right(t, "a kind", want, api.Fact{Kind: kind})
		right(t, "a kind ahead", want && kind <= 9, api.Fact{Kind: kind}, api.Fact{Kind: api.FIn, A: 40, B: 1000001})
		right(t, "a kind behind", want, slices.Compact([]api.Fact{{Kind: api.FProp}, {Kind: kind}})...)
	}
}

// P14.1: right facts are sorted, by Kind, A, S, B in this order, each once.
func TestSorted(t *testing.T) {
	l := append(samples.Facts("prop 0 o 9; prop 0 p 7; prop 0 p 8; prop 1 a 3; prop 1 a 4; behind 0 9; behind 1 0; behind 1 2; call 0 3; enter 0; enter 2; any 0 5; any 0 6; in 0 8; in 3 0; in 3 5; in 4 4"), api.Fact{Kind: api.FIn, A: 5})
	l = append([]api.Fact{{Kind: api.FProp, B: 1000001}}, l...)
	right(t, "sorted", true, l...)
	right(t, "none", true)
	right(t, "empty", true, []api.Fact{}...)
	for i := range l {
		right(t, "one", true, l[i])
		right(t, "one less", true, slices.Delete(slices.Clone(l), i, i+1)...)
		right(t, "one twice", false, slices.Insert(slices.Clone(l), i, l[i])...)
		for j := range i {
			swapped := slices.Clone(l)
			swapped[i], swapped[j] = l[j], l[i]
			right(t, "two swapped", false, swapped...)
			right(t, "two alone", false, l[i], l[j])
			right(t, "two alone", true, l[j], l[i])
		}
	}
}

// P14.1: sets and functions are those of the system.
func TestOfSystem(t *testing.T) {
	for sets := range 30 {
		s := api.System{Sets: 9 + sets, Funs: make([]api.FunSets, 1+sets)}
		for n := range s.Funs {
			s.Funs[n].Mark = 4
		}
		told(t, "a set", s, []api.Fact{{Kind: api.FIn, A: 8 + sets}}, api.OK)
		told(t, "no set", s, []api.Fact{{Kind: api.FIn, A: 9 + sets}}, api.ErrFact)
		told(t, "a function", s, []api.Fact{{Kind: api.FEnter, A: sets}}, api.OK)
		told(t, "no function", s, []api.Fact{{Kind: api.FEnter, A: 1 + sets}}, api.ErrFact)
	}
}

// P14.1: a system that is not right comes first.
func TestSystems(t *testing.T) {
	good, bad := samples.Facts("in 0 4"), samples.Facts("in 0 4; in 0 4")
	for _, s := range []api.System{{}, {Sets: 8, Funs: []api.FunSets{{}}}, {Sets: 100001, Funs: []api.FunSets{{}}}, {Sets: 9}, {Sets: 9, Funs: []api.FunSets{{}, {Mark: 3}}}, {Sets: -1, Funs: []api.FunSets{{}}},
		{Sets: 9, Funs: []api.FunSets{{}}, Rules: []api.Rule{{}}}, {Sets: 9, Funs: []api.FunSets{{}}, Rules: []api.Rule{{Kind: api.RSub, Y: 9}}}, {Sets: 9, Funs: []api.FunSets{{This: 9}}}} {
		told(t, "a wrong system", s, nil, api.ErrRule)
		told(t, "a wrong system", s, good, api.ErrRule)
		told(t, "a wrong system", s, bad, api.ErrRule)
	}
	s := api.System{Sets: 100000, Funs: []api.FunSets{{}}}
	told(t, "the greatest system", s, []api.Fact{{Kind: api.FIn, A: 99999, B: 1000001}}, api.OK)
	told(t, "the greatest system", s, []api.Fact{{Kind: api.FIn, A: 100000, B: 1}}, api.ErrFact)
}

// P14.1: what a kind of rules does not name is not looked at.
func TestNotNamed(t *testing.T) {
	for seed := range uint64(500) {
		g, s := generator(44, seed), made(44, seed)
		l := facts(g, s)
		want := samples.Round(s, l)
		s.Funs[0].Mark = g.IntN(12)
		for i := range s.Rules {
			r := &s.Rules[i]
			calls := r.Kind == api.RCall || r.Kind == api.RNew
			if r.Kind != api.RLoad && r.Kind != api.RStore {
				r.S = "p"
			}
			if r.Kind == api.RObj || r.Kind == api.RFun {
				r.Y = g.IntN(9) - 3
			}
			if r.Kind != api.RCall {
				r.Z = g.IntN(12) - 3
			}
			if !calls {
				r.L = []int{g.IntN(9), -3}
			}
			if !calls && r.Kind != api.RFun {
				r.N = g.IntN(12) - 3
			}
			if !calls && r.Kind != api.RObj {
				r.M = g.IntN(12) - 3
			}
		}
		is(t, s, l, want)
	}
}

// R1: no call panics, whatever is handed in.
func TestStrange(t *testing.T) {
	for seed := range uint64(4000) {
		g, s := generator(45, seed), made(45, seed)
		l := facts(g, s)
		number := func() int {
			return []int{0, 1, -1, 2, g.IntN(40), -g.IntN(40), math.MaxInt, math.MinInt, 1000000, 1000001, 1000002, 100000}[g.IntN(12)]
		}
		f, r, fact := &s.Funs[g.IntN(len(s.Funs))], &api.Rule{}, &api.Fact{}
		if len(s.Rules) > 0 {
			r = &s.Rules[g.IntN(len(s.Rules))]
		}
		if len(l) > 0 {
			fact = &l[g.IntN(len(l))]
		}
		fields := []*int{&f.Mark, &f.This, &f.Ret, &f.Throw, &r.Kind, &r.F, &r.X, &r.Y, &r.Z, &r.N, &r.M, &s.Sets, &fact.Kind, &fact.A, &fact.B, &fact.Kind, &fact.A, &fact.B}
		*fields[g.IntN(len(fields))] = number()
		round, e := least.Round(s, l)
		closed, f2 := least.Closed(s, l)
		if least.Right(s, l) != (e == api.OK) || e != f2 || e != api.OK && (len(round) > 0 || closed) {
			t.Fatalf("%+v, %v: %d, %d", s, l, e, f2)
		}
		least.Within(l, round)
		least.Within(round, l)
	}
}
