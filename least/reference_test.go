package least_test

import (
	"slices"
	"testing"

	"gumshoe/api"
	"gumshoe/least"
	"gumshoe/samples"
)

// is asks for a round of right facts, and whether they are closed.
func is(t *testing.T, s api.System, l []api.Fact, want []api.Fact) {
	t.Helper()
	if !least.Right(s, l) {
		t.Fatalf("%+v: %s: not right", s, samples.Told(l...))
	}
	got, e := least.Round(s, l)
	if e != api.OK || !slices.Equal(got, want) {
		t.Fatalf("%+v: %s: a round has (%d) more: %s; less: %s", s, samples.Told(l...), e, samples.Told(minus(got, want)...), samples.Told(minus(want, got)...))
	}
	closed, e := least.Closed(s, l)
	if e != api.OK || closed != slices.Equal(l, want) {
		t.Fatalf("%+v: %s: Closed is %v, %d", s, samples.Told(l...), closed, e)
	}
}

// minus are the facts of one list that another one has not.
func minus(a, b []api.Fact) []api.Fact {
	return slices.DeleteFunc(slices.Clone(a), func(f api.Fact) bool { return slices.Contains(b, f) })
}

// P14.1: rounds of any right facts, held against the chapters' words; what is asked for in them is of all kinds.
func TestReference(t *testing.T) {
	met := map[api.Fact]int{}
	closed := 0
	for seed := range uint64(6000) {
		g, s := generator(40, seed), made(40, seed)
		l := facts(g, s)
		want := samples.Round(s, l)
		is(t, s, l, want)
		if len(l) == len(want) {
			closed++
		}
		for _, f := range minus(want, l) {
			f.A, f.S, f.B = 0, "", min(f.B, 4)
			met[f]++
		}
	}
	for _, f := range samples.Facts("prop 0 p 4; behind 0 4; call 0 2; call 0 3; call 0 4; enter 0; any 0 4; in 0 4") {
		if f.S = ""; met[f] < 300 {
			t.Errorf("of %s there are but %d", samples.Told(f), met[f])
		}
	}
	if closed < 300 {
		t.Errorf("%d are closed", closed)
	}
}

// P14.1: one fact less, one fact more than a system's.
func TestNearlyClosed(t *testing.T) {
	for seed := range uint64(400) {
		g, s := generator(41, seed), made(41, seed)
		l := solved(s)
		for range 10 {
			n := g.IntN(len(l))
			less := slices.Delete(slices.Clone(l), n, n+1)
			is(t, s, less, samples.Round(s, less))
		}
		for range 10 {
			more := sorted(append(slices.Clone(l), fact(g, s)))
			is(t, s, more, samples.Round(s, more))
		}
	}
}

// P14.1: rounds of programs' facts.
func TestPrograms(t *testing.T) {
	for seed := range uint64(60) {
		g, s := generator(42, seed), program(42, seed)
		l := solved(s)
		is(t, s, l, l)
		part := slices.DeleteFunc(slices.Clone(l), func(api.Fact) bool { return g.IntN(20) == 0 })
		is(t, s, part, samples.Round(s, part))
	}
}
