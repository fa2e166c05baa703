package least_test

import (
	"fmt"
	"slices"
	"testing"

	"gumshoe/api"
	"gumshoe/least"
	"gumshoe/samples"
)

// spared is a list with spare room, filled.
func spared[T any](l []T, with T) []T {
	return append(slices.Clone(l), with, with)[:len(l)]
}

func fill[T any](l []T, with T) {
	l = l[:cap(l)]
	for i := range l {
		l[i] = with
	}
}

// wrong is a fact that none of the calls tells.
var wrong = api.Fact{Kind: -7, A: -7, S: "wrong", B: -7}

// roomy is a system all of whose lists have spare room.
func roomy(s api.System) api.System {
	s.Funs, s.Rules = spared(s.Funs, api.FunSets{Mark: -7}), spared(s.Rules, api.Rule{Kind: -7})
	for i := range s.Funs {
		s.Funs[i].Params = spared(s.Funs[i].Params, -7)
	}
	for i := range s.Rules {
		s.Rules[i].L = spared(s.Rules[i].L, -7)
	}
	return s
}

// whole is a system and facts, with all spare room, told.
func whole(s api.System, l []api.Fact) string {
	text := fmt.Sprintf("%+v %+v %+v %+v", s, s.Funs[:cap(s.Funs)], s.Rules[:cap(s.Rules)], l[:cap(l)])
	for _, f := range s.Funs {
		text += fmt.Sprint(f.Params[:cap(f.Params)])
	}
	for _, r := range s.Rules {
		text += fmt.Sprint(r.L[:cap(r.L)])
	}
	return text
}

// R3, R4: what is handed in is neither written into, nor its spare room, nor kept; answers are new.
func TestMemory(t *testing.T) {
	for seed := range uint64(500) {
		g, s := generator(46, seed), roomy(made(46, seed))
		l := facts(g, s)
		if seed%2 == 0 {
			l = solved(s) // so that the answer is just what is handed in
		}
		l = spared(l, wrong)
		was, want := whole(s, l), samples.Round(s, l)
		first, _ := least.Round(s, l)
		least.Right(s, l)
		least.Closed(s, l)
		second, _ := least.Round(s, l)
		if whole(s, l) != was {
			t.Fatalf("%s was changed", was)
		}
		fill(second, wrong)
		if whole(s, l) != was {
			t.Fatal("an answer is what was handed in")
		}
		fill(s.Funs, api.FunSets{Mark: -7})
		fill(s.Rules, api.Rule{Kind: -7})
		fill(l, wrong)
		if !slices.Equal(first, want) {
			t.Fatal("an answer hangs on another one, or on what was handed in")
		}
	}
}

// R3: Within changes none of its lists, sorted or not.
func TestMemoryOfWithin(t *testing.T) {
	for seed := range uint64(500) {
		g, s := generator(47, seed), made(47, seed)
		a, b := facts(g, s), facts(g, s)
		g.Shuffle(len(a), func(i, j int) { a[i], a[j] = a[j], a[i] })
		g.Shuffle(len(b), func(i, j int) { b[i], b[j] = b[j], b[i] })
		a, b = spared(a, wrong), spared(b, wrong)
		was := fmt.Sprint(a[:cap(a)], b[:cap(b)])
		least.Within(a, b)
		least.Within(a, a)
		least.Within(sorted(a), b)
		if fmt.Sprint(a[:cap(a)], b[:cap(b)]) != was {
			t.Fatalf("%s was changed", was)
		}
	}
}

// R3: nil and empty lists are one.
func TestEmpty(t *testing.T) {
	s := api.System{Sets: 9, Funs: []api.FunSets{{Params: []int{}}, {Mark: 4}}, Rules: []api.Rule{{Kind: api.RFun, N: 1}, {Kind: api.RCall, Z: -1, M: 9, L: []int{}}, {Kind: api.RNew, M: 9, L: []int{}}}}
	for _, l := range [][]api.Fact{nil, {}, samples.Facts("enter 0; in 0 4")} {
		want := samples.Round(s, l)
		is(t, s, l, want)
		other := s
		other.Rules = []api.Rule{s.Rules[0], {Kind: api.RCall, Z: -1, M: 9}, {Kind: api.RNew, M: 9}}
		is(t, other, l, want)
		other.Rules = []api.Rule{}
		is(t, other, l, samples.Round(other, l))
	}
	if !least.Within([]api.Fact{}, nil) || !least.Within(nil, []api.Fact{}) || least.Within([]api.Fact{{}}, []api.Fact{}) {
		t.Error("nothing is within nothing")
	}
}
