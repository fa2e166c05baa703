package solve_test

import (
	"math"
	"slices"
	"testing"

	"gumshoe/api"
	"gumshoe/samples"
	"gumshoe/solve"
)

// changed is base with a rule of each kind, changed; what was handed in before is left.
func changed(change func(s *api.System)) api.System {
	s := samples.With("obj 0 9; fun 0 1; sub 0 1; load 0 p 1; loadx 0 1; store 0 p 1; any 0 1; call 0 1 2 3 9 4 5; new 0 1 2 9 3 4")
	change(&s)
	return s
}

// right asks whether a system is, and Solve for what follows.
func right(t *testing.T, what string, s api.System, want bool) {
	t.Helper()
	if got := solve.Right(s); got != want {
		t.Errorf("%s: Right is %v", what, got)
	}
	l, e := solve.Solve(s, most)
	if want && (e != api.OK || !slices.Equal(l, reference(s))) {
		t.Errorf("%s: Solve tells %d", what, e)
	}
	if !want && (e != api.ErrRule || len(l) > 0) {
		t.Errorf("%s: Solve tells %d, and %d facts", what, e, len(l))
	}
}

// from asks for all numbers from least to most, and for none beside them.
func from(t *testing.T, what string, least, most int, change func(s *api.System, n int)) {
	t.Helper()
	for _, n := range []int{math.MinInt, -most, -2, -1, 0, 1, 2, 3, 4, 5, least - 1, least, least + 1, most - 1, most, most + 1, most + 2, math.MaxInt, math.MaxInt - 1, math.MinInt + 1, 1 << 32, 1<<32 + least} {
		right(t, what, changed(func(s *api.System) { change(s, n) }), n >= least && n <= most)
	}
}

// P13.1: how many sets a system has.
func TestSetsAreRight(t *testing.T) {
	for _, n := range []int{math.MinInt, -9, -1, 0, 1, 8, 9, 10, 99999, 100000, 100001, math.MaxInt} {
		s := api.System{Sets: n, Funs: []api.FunSets{{}}}
		want := n >= 9 && n <= 100000
		if solve.Right(s) != want {
			t.Errorf("Right of %d sets is %v", n, !want)
		}
		l, e := solve.Solve(s, most)
		if want != (e == api.OK) || want != slices.Equal(l, always()) || !want && e != api.ErrRule {
			t.Errorf("Solve of %d sets tells %d, %v", n, e, l)
		}
	}
	right(t, "no function", api.System{Sets: 9}, false)
	right(t, "nothing", api.System{}, false)
	right(t, "no function, and rules", api.System{Sets: 9, Rules: []api.Rule{{Kind: api.RSub}}}, false)
	from(t, "sets that are enough", 41, 100000, func(s *api.System, n int) {
		s.Sets = n
		s.Funs[1].This = 40
	})
}

// P13.1: functions.
func TestFunctionsAreRight(t *testing.T) {
	right(t, "base", changed(func(s *api.System) {}), true)
	for f := range 3 {
		from(t, "This", 0, 40, func(s *api.System, n int) { s.Funs[f].This = n })
		from(t, "Ret", 0, 40, func(s *api.System, n int) { s.Funs[f].Ret = n })
		from(t, "Throw", 0, 40, func(s *api.System, n int) { s.Funs[f].Throw = n })
		from(t, "a parameter", 0, 40, func(s *api.System, n int) { s.Funs[f].Params = []int{n, 0} })
		from(t, "the last parameter", 0, 40, func(s *api.System, n int) { s.Funs[f].Params = []int{0, 1, n} })
		for count, want := range map[int]bool{0: true, 199: true, 200: true, 201: false, 1000: false} {
			right(t, "parameters", changed(func(s *api.System) { s.Funs[f].Params = make([]int, count) }), want)
		}
		if f == 0 {
			from(t, "the program's mark", math.MinInt, math.MaxInt, func(s *api.System, n int) { s.Funs[f].Mark = n })
		} else {
			from(t, "Mark", 4, 999999, func(s *api.System, n int) { s.Funs[f].Mark = n })
		}
	}
}

// P13.1: rules, and what their kinds do not name.
func TestRulesAreRight(t *testing.T) {
	all, none := math.MinInt, math.MaxInt
	for i, kind := range []int{api.RObj, api.RFun, api.RSub, api.RLoad, api.RLoadX, api.RStore, api.RAny, api.RCall, api.RNew} {
		calls := kind == api.RCall || kind == api.RNew
		limits := func(named bool, least, most int) (int, int) {
			if named {
				return least, most
			}
			return all, none
		}
		field := func(what string, named bool, least, most int, change func(r *api.Rule, n int)) {
			t.Helper()
			least, most = limits(named, least, most)
			from(t, what, least, most, func(s *api.System, n int) { change(&s.Rules[i], n) })
		}
		field("F", true, 0, 2, func(r *api.Rule, n int) { r.F = n })
		field("X", true, 0, 40, func(r *api.Rule, n int) { r.X = n })
		field("Y", kind != api.RObj && kind != api.RFun, 0, 40, func(r *api.Rule, n int) { r.Y = n })
		field("Z", kind == api.RCall, -1, 40, func(r *api.Rule, n int) { r.Z = n })
		field("M", kind == api.RObj || calls, 4, 1000000, func(r *api.Rule, n int) { r.M = n })
		field("L", calls, 0, 40, func(r *api.Rule, n int) { r.L = []int{0, n, 1} })
		if kind == api.RFun {
			field("N", true, 1, 2, func(r *api.Rule, n int) { r.N = n })
		} else {
			field("N", calls, 0, 40, func(r *api.Rule, n int) { r.N = n })
		}
		for count, want := range map[int]bool{0: true, 199: true, 200: true, 201: !calls, 1000: !calls} {
			right(t, "a list", changed(func(s *api.System) { s.Rules[i].L = make([]int, count) }), want)
		}
		right(t, "a key", changed(func(s *api.System) { s.Rules[i].S = "\x00\xff" }), true)
		for _, n := range []int{math.MinInt, -1, 0, 10, 11, math.MaxInt} {
			right(t, "a kind", changed(func(s *api.System) { s.Rules[i].Kind = n }), false)
		}
	}
}

// P13.1: what is not named makes no difference.
func TestNotNamed(t *testing.T) {
	for seed := range uint64(300) {
		g, s := generator(32, seed), made(32, seed)
		want := reference(s)
		s.Funs[0].Mark = g.IntN(12)
		for i := range s.Rules {
			r := &s.Rules[i]
			calls := r.Kind == api.RCall || r.Kind == api.RNew
			if r.Kind != api.RLoad && r.Kind != api.RStore {
				r.S = "p"
			}
			if r.Kind == api.RObj || r.Kind == api.RFun {
				r.Y = g.IntN(9) - 3
			}
			if r.Kind != api.RCall {
				r.Z = g.IntN(12) - 3
			}
			if !calls {
				r.L = []int{g.IntN(9), -3}
			}
			if !calls && r.Kind != api.RFun {
				r.N = g.IntN(12) - 3
			}
			if !calls && r.Kind != api.RObj {
				r.M = g.IntN(12) - 3
			}
		}
		is(t, s, want)
	}
}

// solved asks what Solve tells, with a limit.
func solved(t *testing.T, s api.System, limit int, want api.Errno) {
	t.Helper()
	l, e := solve.Solve(s, limit)
	if e != want || e != api.OK && len(l) > 0 {
		t.Errorf("%d facts: Solve tells %d, not %d, and %d facts", limit, e, want, len(l))
	}
}

// P13.1: the limit, from both sides, of facts and of what may be asked for; which error comes first.
func TestLimits(t *testing.T) {
	wrong := api.System{Sets: 9}
	for _, n := range []int{math.MinInt, -10000000, -1, 0, 10000001, math.MaxInt} {
		solved(t, samples.Base(), n, api.ErrArg)
		solved(t, wrong, n, api.ErrArg)
	}
	for _, n := range []int{1, 5, 6, 7, 9999999, 10000000} {
		solved(t, wrong, n, api.ErrRule)
		if n < 6 {
			solved(t, samples.Base(), n, api.ErrSteps)
		} else {
			solved(t, samples.Base(), n, api.OK)
		}
	}
	for seed := range uint64(300) {
		s := made(33, seed)
		count := len(reference(s))
		for less := range min(count, 4) {
			if less > 0 {
				solved(t, s, count-less, api.ErrSteps)
			}
		}
		solved(t, s, 1+count/2, api.ErrSteps)
		solved(t, s, count, api.OK)
		solved(t, s, count+1, api.OK)
		for limit := range count {
			if seed < 30 && limit > 0 {
				solved(t, s, limit, api.ErrSteps)
			}
		}
	}
}

// R1: no call panics, whatever a system is.
func TestStrangeSystems(t *testing.T) {
	for seed := range uint64(3000) {
		g, s := generator(34, seed), made(34, seed)
		number := func() int {
			return []int{0, 1, -1, 2, g.IntN(40), -g.IntN(40), math.MaxInt, math.MinInt, 1000000, 1000001, 100000}[g.IntN(11)]
		}
		for range 1 + g.IntN(2) {
			f, r := &s.Funs[g.IntN(len(s.Funs))], &api.Rule{}
			if len(s.Rules) > 0 {
				r = &s.Rules[g.IntN(len(s.Rules))]
			}
			fields := []*int{&f.Mark, &f.This, &f.Ret, &f.Throw, &r.Kind, &r.F, &r.X, &r.Y, &r.Z, &r.N, &r.M, &s.Sets}
			for _, l := range [][]int{f.Params, r.L} {
				for i := range l {
					fields = append(fields, &l[i])
				}
			}
			*fields[g.IntN(len(fields))] = number()
		}
		if l, e := solve.Solve(s, 1000); solve.Right(s) == (e == api.ErrRule) || e != api.OK && len(l) > 0 {
			t.Fatalf("%+v: %d", s, e)
		}
	}
}
