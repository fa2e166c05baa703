package solve_test

import (
	"fmt"
	"slices"
	"testing"

	"gumshoe/api"
	"gumshoe/solve"
)

// spared is a list with spare room, filled.
func spared[T any](l []T, with T) []T {
	return append(slices.Clone(l), with, with)[:len(l)]
}

// roomy is a system all of whose lists have spare room.
func roomy(s api.System) api.System {
	s.Funs, s.Rules = spared(s.Funs, api.FunSets{Mark: -7}), spared(s.Rules, api.Rule{Kind: -7})
	for i := range s.Funs {
		s.Funs[i].Params = spared(s.Funs[i].Params, -7)
	}
	for i := range s.Rules {
		s.Rules[i].L = spared(s.Rules[i].L, -7)
	}
	return s
}

// whole is a system with all spare room, told.
func whole(s api.System) string {
	text := fmt.Sprintf("%+v %+v %+v", s, s.Funs[:cap(s.Funs)], s.Rules[:cap(s.Rules)])
	for _, f := range s.Funs {
		text += fmt.Sprint(f.Params[:cap(f.Params)])
	}
	for _, r := range s.Rules {
		text += fmt.Sprint(r.L[:cap(r.L)])
	}
	return text
}

// overwrite fills all lists of a system, the inner ones first.
func overwrite(s api.System) {
	for _, f := range s.Funs {
		fill(f.Params, -7)
	}
	for _, r := range s.Rules {
		fill(r.L, -7)
	}
	fill(s.Funs, api.FunSets{Mark: -7})
	fill(s.Rules, api.Rule{Kind: -7})
}

func fill[T any](l []T, with T) {
	l = l[:cap(l)]
	for i := range l {
		l[i] = with
	}
}

// R3, R4: what is handed in is neither written into, nor its spare room, nor kept; answers are new.
func TestMemory(t *testing.T) {
	for seed := range uint64(300) {
		s := roomy(made(35, seed))
		was := whole(s)
		solve.Right(s)
		first, _ := solve.Solve(s, most)
		solve.Solve(s, 3)
		second, _ := solve.Solve(s, most)
		if whole(s) != was {
			t.Fatalf("%s was changed", was)
		}
		want := slices.Clone(first)
		fill(second, api.Fact{Kind: -7})
		overwrite(s)
		if !slices.Equal(first, want) {
			t.Fatal("an answer hangs on another one, or on what was handed in")
		}
		fill(first, api.Fact{Kind: -7})
		is(t, made(35, seed), want)
	}
}

// R3: nil and empty lists are one.
func TestEmpty(t *testing.T) {
	s := api.System{Sets: 9, Funs: []api.FunSets{{Params: []int{}}, {Mark: 4, Params: []int{}}}, Rules: []api.Rule{}}
	is(t, s, always())
	s.Rules = []api.Rule{{Kind: api.RFun, N: 1}, {Kind: api.RCall, Z: -1, M: 9, L: []int{}}, {Kind: api.RNew, M: 9, L: []int{}}}
	want := reference(s)
	s.Funs[0].Params, s.Funs[1].Params, s.Rules[1].L, s.Rules[2].L = nil, nil, nil, nil
	is(t, s, want)
}
