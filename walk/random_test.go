package walk_test

import (
	"math/rand/v2"
	"slices"
	"testing"

	"gumshoe/api"
	"gumshoe/jtree"
	"gumshoe/samples"
	"gumshoe/walk"
)

func generator(kind uint64, seed uint64) *rand.Rand { return rand.New(rand.NewPCG(kind, seed)) }

// P8.1: programs at random, with inputs and steps at random, held against the reference.
func TestLikeTheReference(t *testing.T) {
	var ended [5]int
	kinds := map[int]int{}
	for seed := range uint64(6000) {
		r := generator(8, seed)
		p := samples.Program(r.IntN)
		input := []int64{r.Int64N(5), r.Int64N(5) - 2, r.Int64()}[:r.IntN(4)]
		fuel := []int{r.IntN(100), 500, 3000}[r.IntN(3)]
		o, line, e := walk.Run(p, input, fuel)
		if line != 0 || e != api.OK {
			t.Fatalf("seed %d: %d at %d", seed, e, line)
		}
		if want := refer(p, input, fuel); !same(o, want) {
			s, _ := jtree.Show(p)
			t.Fatalf("seed %d: %s\nends %d with %v behind %d steps, not %d with %v behind %d\n%s\nnot\n%s\n%s\nnot\n%s", seed, s,
				o.How, o.V, o.Steps, want.How, want.V, want.Steps, story(o.Events), story(want.Events), knowledge(o.Facts), knowledge(want.Facts))
		}
		ended[o.How]++
		for _, e := range o.Events {
			kinds[e.Kind]++
		}
	}
	if ended[api.WEnd] < 500 || ended[api.WFuel] < 500 || ended[api.WThrow] < 100 || ended[api.WDeep] < 3 || ended[api.WFull] < 1 {
		t.Errorf("ends %d", ended)
	}
	for kind := api.EAlloc; kind <= api.EEnter; kind++ {
		if kinds[kind] < 3000 {
			t.Errorf("%d events of the kind %d", kinds[kind], kind)
		}
	}
}

// P8.2: programs at random, with fewer steps and with more.
func TestRandomMoreSteps(t *testing.T) {
	for seed := range uint64(1500) {
		r := generator(82, seed)
		p := samples.Program(r.IntN)
		whole, _, _ := walk.Run(p, []int64{2}, 2000)
		fewer, _, _ := walk.Run(p, []int64{2}, r.IntN(2000))
		more, _, _ := walk.Run(p, []int64{2}, 2001+r.IntN(9000))
		if whole.How != api.WFuel && !same(more, whole) {
			t.Fatalf("seed %d: more steps make another end", seed)
		}
		if fewer.How != api.WFuel && !same(fewer, whole) {
			t.Fatalf("seed %d: fewer steps make another end", seed)
		}
		for _, o := range [][2]api.Outcome{{fewer, whole}, {whole, more}} {
			if n := len(o[0].Events); n > len(o[1].Events) || !slices.Equal(o[0].Events, o[1].Events[:n]) {
				t.Fatalf("seed %d: no beginning", seed)
			}
		}
	}
}

// R1: what is no right program has an error, and no call panics.
func TestWrongTrees(t *testing.T) {
	for seed := range uint64(3000) {
		p := samples.Changed(generator(83, seed).IntN)
		o, _, e := walk.Run(p, nil, 300)
		if !jtree.Right(p) && (e != api.ErrTree || o.Events != nil || o.Facts != nil) {
			t.Fatalf("seed %d: %d", seed, e)
		}
	}
}
