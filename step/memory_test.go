package step_test

import (
	"fmt"
	"slices"
	"testing"

	"gumshoe/api"
	"gumshoe/code"
	"gumshoe/samples"
	"gumshoe/step"
)

// roomy is a list with spare room that something stands in.
func roomy[T any](l []T, spare T) []T { return append(slices.Clone(l), spare, spare)[:len(l)] }

// fill fills a list and its spare room.
func fill[T any](l []T, with T) {
	for i := range l[:cap(l)] {
		l[:cap(l)][i] = with
	}
}

// R3, R4: functions, codes and inputs are neither written into, nor their spare room, nor kept; no answer hangs on another one.
func TestWhatIsHandedIn(t *testing.T) {
	spare := api.Ins{Op: 99, L: []int{9}}
	for seed := range uint64(200) {
		c := coded(19, seed)
		want, _ := step.Run(c.funs, c.l, []int64{5, 6}, 2000)
		funs, l, in := roomy(c.funs, api.Fun{Mark: 99}), roomy(c.l, api.Proc{Regs: 99}), roomy([]int64{5, 6}, 99)
		for n := range funs {
			funs[n].Vars = roomy(funs[n].Vars, "spare")
			l[n].Ins = roomy(l[n].Ins, spare)
			for i := range l[n].Ins {
				l[n].Ins[i].L = roomy(l[n].Ins[i].L, 99)
			}
		}
		wasFuns, wasIn := fmt.Sprint(funs[:len(funs)+1]), fmt.Sprint(in[:4])
		o, e := step.Run(funs, l, in, 2000)
		if e != api.OK || !step.Right(funs, l) || !same(o, want) {
			t.Fatalf("seed %d: %d, ends %d, not %d", seed, e, o.How, want.How)
		}
		if fmt.Sprint(funs[:len(funs)+1]) != wasFuns || fmt.Sprint(in[:4]) != wasIn || !code.Same(l, c.l) || l[:len(l)+1][len(l)].Regs != 99 {
			t.Fatalf("seed %d: what was handed in has changed", seed)
		}
		for n := range funs {
			room := l[n].Ins[:len(l[n].Ins)+1]
			if funs[n].Vars[:len(funs[n].Vars)+1][len(funs[n].Vars)] != "spare" || room[len(room)-1].Op != 99 || spare.L[0] != 9 {
				t.Fatalf("seed %d: spare room has changed", seed)
			}
			for _, i := range l[n].Ins {
				if i.L[:len(i.L)+1][len(i.L)] != 99 {
					t.Fatalf("seed %d: spare room has changed", seed)
				}
				fill(i.L, 0)
			}
			fill(funs[n].Vars, "filled")
			fill(l[n].Ins, api.Ins{})
		}
		fill(funs, api.Fun{})
		fill(l, api.Proc{})
		fill(in, 0)
		if !same(o, want) {
			t.Fatalf("seed %d: what was handed in is shared with the answer", seed)
		}
	}
}

// R3, R4: answers share nothing with each other, nor are they kept.
func TestAnswersShareNothing(t *testing.T) {
	p := samples.Read("function f(a) { this.p = a; return function() { return input } } var x = new f({q: input}); for (var k in x) { x[k] = x; } x.p.q()")
	run := func() api.Outcome {
		o, _, _ := step.Program(p, []int64{4}, plenty)
		return o
	}
	one, other := run(), run()
	if !same(one, other) || len(one.Events) == 0 || len(one.Facts) == 0 {
		t.Fatal("two runs of one program are not the same")
	}
	fill(one.Events, api.Event{Kind: 99})
	fill(one.Facts, api.Fact{Kind: 99})
	if !same(other, run()) {
		t.Error("answers share something")
	}
}

// R3: nil and empty lists are one.
func TestNoInput(t *testing.T) {
	l := []api.Proc{proc(input(0), throw(0), ret(none))}
	for _, in := range [][]int64{nil, {}} {
		behaves(t, ran(t, plenty, in, l...), api.WThrow, num(0), 2, threw(-1))
	}
	l[0].Ins[0].L = []int{}
	behaves(t, ran(t, plenty, nil, l...), api.WThrow, num(0), 2, threw(-1))
}
