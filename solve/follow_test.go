package solve_test

import (
	"fmt"
	"slices"
	"testing"

	"gumshoe/api"
	"gumshoe/rules"
	"gumshoe/samples"
	"gumshoe/solve"
	"gumshoe/walk"
)

// P13.2: the order of rules, and rules that come twice.
func TestOrder(t *testing.T) {
	for seed := range uint64(500) {
		g, s := generator(36, seed), made(36, seed)
		want := reference(s)
		for range 3 {
			g.Shuffle(len(s.Rules), func(i, j int) { s.Rules[i], s.Rules[j] = s.Rules[j], s.Rules[i] })
			is(t, s, want)
			twice := s
			twice.Rules = append(slices.Clone(s.Rules), s.Rules[:len(s.Rules)/2]...)
			is(t, twice, want)
		}
	}
}

// P13.2: more rules have no fewer facts.
func TestMoreRules(t *testing.T) {
	for seed := range uint64(500) {
		s := made(37, seed)
		more, _ := solve.Solve(s, most)
		for n := range s.Rules {
			fewer := s
			fewer.Rules = s.Rules[:n]
			l, e := solve.Solve(fewer, most)
			if missing := minus(l, more); e != api.OK || len(missing) > 0 {
				t.Fatalf("%+v: the first %d rules alone have %v", s, n, missing)
			}
		}
	}
}

// covered tells whether a run's fact is among those that are told.
func covered(funs []api.Fun, s api.System, told map[api.Fact]bool, f api.Fact) bool {
	switch f.Kind {
	case api.FVar:
		set, _ := rules.VarSet(funs, s, f.A)
		f = api.Fact{Kind: api.FIn, A: set, B: f.B}
	case api.FThis:
		f = api.Fact{Kind: api.FIn, A: s.Funs[f.A].This, B: f.B}
	case api.FThrown:
		f = api.Fact{Kind: api.FIn, A: s.Funs[0].Throw, B: f.B}
	case api.FProp:
		return told[f] || told[api.Fact{Kind: api.FAny, A: f.A, B: f.B}]
	}
	return told[f]
}

// T1: what runs come to is among the facts.
func TestRuns(t *testing.T) {
	for seed := range uint64(500) {
		p := samples.Program(generator(38, seed).IntN)
		funs, s, _, _ := rules.Rules(p)
		l, e := solve.Solve(s, most)
		if e != api.OK {
			t.Fatalf("%s: %d", samples.Shown(p), e)
		}
		told := map[api.Fact]bool{}
		for _, f := range l {
			told[f] = true
		}
		for _, input := range [][]int64{nil, {1, 1, 1, 1, 1, 1}, {1, 0, 2, 0, 1}} {
			out, _, _ := walk.Run(p, input, 3000)
			for _, f := range out.Facts {
				if !covered(funs, s, told, f) {
					t.Fatalf("%s: %v is missing", samples.Shown(p), f)
				}
			}
		}
	}
}

// P13.1: the greatest number of sets, each with many marks, near and far.
func TestManySets(t *testing.T) {
	s := api.System{Sets: 100000, Funs: []api.FunSets{{}}}
	for n := range 100000 - 1 {
		s.Rules = append(s.Rules, api.Rule{Kind: api.RSub, X: 99999 - n, Y: 99998 - n})
	}
	for m := range 49 {
		s.Rules = append(s.Rules, api.Rule{Kind: api.RObj, X: 99999, M: []int{4 + m, 1000000 - 20000*m}[m%2]})
	}
	l, e := solve.Solve(s, most)
	if e != api.OK || len(l) != 6+49+49*100000 || !slices.IsSortedFunc(l, samples.Order) {
		t.Errorf("%d facts, %d", len(l), e)
	}
	solved(t, s, 6+49+49*100000-1, api.ErrSteps)
	solved(t, s, 1000, api.ErrSteps)
}

// P13.1: sets that have more marks than a few, some of them late.
func TestManyMarks(t *testing.T) {
	for _, step := range []int{1, 63, 64, 65, 999} {
		s := samples.Base()
		for m := range 1000 {
			s.Rules = append(s.Rules, api.Rule{Kind: api.RObj, X: m % 7, M: 4 + m*step}, api.Rule{Kind: api.RSub, X: m % 7, Y: 8})
		}
		s.Rules = append(s.Rules, samples.Rule("any 8 8"), samples.Rule("sub 8 9"), samples.Rule("load 0 p 10"), samples.Rule("loadx 9 11"))
		l, e := solve.Solve(s, most)
		if e != api.OK || len(l) != 6+1000+1000000+5*1000 || !slices.IsSortedFunc(l, samples.Order) {
			t.Errorf("%d: %d facts, %d", step, len(l), e)
		}
		for i := range l[1:] {
			if l[i] == l[i+1] {
				t.Errorf("%v twice", l[i])
			}
		}
	}
}

// P13.1: calls that enter one function behind the other, and constructions, each of which stands behind the next one.
func TestLongChains(t *testing.T) {
	const many = 3000
	s := api.System{Sets: 3*many + 12, Funs: []api.FunSets{{}}, Rules: []api.Rule{{Kind: api.RObj, X: 3*many + 1, M: 900000}, {Kind: api.RStore, X: 3 * many, S: "p", Y: 3*many + 1}}}
	for f := range many {
		s.Funs = append(s.Funs, api.FunSets{Mark: 10 + 2*f, Params: []int{f}})
		s.Rules = append(s.Rules, api.Rule{Kind: api.RFun, F: f, X: many + f, N: f + 1}, api.Rule{Kind: api.RCall, F: f, X: many + f, Z: -1, Y: 0, N: 0, M: 500000 + f, L: []int{max(f-1, 0)}})
	}
	s.Rules = append(s.Rules, api.Rule{Kind: api.RObj, M: 7})
	l, e := solve.Solve(s, most)
	if e != api.OK || !slices.Contains(l, api.Fact{Kind: api.FEnter, A: many}) || !slices.Contains(l, api.Fact{Kind: api.FIn, A: many - 1, B: 7}) {
		t.Errorf("%d facts, %d", len(l), e)
	}
	s = api.System{Sets: 3*many + 12, Funs: []api.FunSets{{}}, Rules: []api.Rule{{Kind: api.RObj, X: 2*many + 3, M: 900000}}}
	for f := range many { // the mark behind the first one's is stood behind by the second one's, and so on
		s.Funs = append(s.Funs, api.FunSets{Mark: 10 + 2*f})
		s.Rules = append(s.Rules, api.Rule{Kind: api.RFun, X: f, N: f + 1}, api.Rule{Kind: api.RNew, X: f, Y: many + f, N: many + f, M: 11 + 2*f + 2})
	}
	s.Rules = append(s.Rules, api.Rule{Kind: api.RLoad, X: 0, S: "prototype", Y: 2*many + 1}, api.Rule{Kind: api.RStore, X: 2*many + 1, S: "p", Y: 2*many + 3},
		api.Rule{Kind: api.RLoad, X: 2*many - 1, S: "p", Y: 2*many + 2}, api.Rule{Kind: api.RLoad, X: 2*many - 1, S: "q", Y: 2*many + 4})
	l, e = solve.Solve(s, most)
	if e != api.OK || !slices.Contains(l, api.Fact{Kind: api.FIn, A: 2*many + 2, B: 900000}) || slices.Contains(l, api.Fact{Kind: api.FIn, A: 2*many + 4, B: 900000}) {
		t.Errorf("%d facts, %d", len(l), e)
	}
}

// The order in which maps are gone through is not to be seen: twice the same.
func TestTwice(t *testing.T) {
	for seed := range uint64(200) {
		s := made(39, seed)
		l, e := solve.Solve(s, most)
		again, f := solve.Solve(s, most)
		if fmt.Sprint(l, e) != fmt.Sprint(again, f) {
			t.Fatalf("%+v: %v, and then %v", s, l, again)
		}
	}
}
