package solve_test

import (
	"testing"

	"gumshoe/api"
	"gumshoe/samples"
)

// reference are a system's facts, by rounds till there are no more.
func reference(s api.System) []api.Fact {
	var l []api.Fact
	for {
		next := samples.Round(s, l)
		if len(next) == len(l) {
			return l
		}
		l = next
	}
}

// P13.1, T3: systems' facts, held against the reference; all kinds of facts are among them, and calls of call and of apply.
func TestReference(t *testing.T) {
	met := map[api.Fact]int{}
	for seed := range uint64(3000) {
		s := made(30, seed)
		l := reference(s)
		is(t, s, l)
		for _, f := range l {
			f.A, f.S, f.B = 0, "", min(f.B, 4)
			met[f]++
		}
	}
	for _, f := range []api.Fact{{Kind: api.FProp, B: 4}, {Kind: api.FProto, B: 4}, {Kind: api.FCall, B: 2}, {Kind: api.FCall, B: 3}, {Kind: api.FCall, B: 4}, {Kind: api.FEnter}, {Kind: api.FAny, B: 4}, {Kind: api.FIn, B: 4}} {
		if met[f] < 500 {
			t.Errorf("of %v there are but %d", f, met[f])
		}
	}
}

// P13.1, T3: programs' facts, held against the reference.
func TestPrograms(t *testing.T) {
	for seed := range uint64(70) {
		s := program(31, seed)
		is(t, s, reference(s))
	}
}
