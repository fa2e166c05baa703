package alias_test

import (
	"fmt"
	"slices"
	"testing"

	"gumshoe/alias"
	"gumshoe/api"
)

// handed is what calls are handed: all of it has spare room.
type handed struct {
	known
	of   []int
	p, q api.Path
}

func newHanded(t *testing.T, seed uint64) handed {
	t.Helper()
	g, k, p, q := made(t, 79, seed)
	k.l = append(k.l, anyFacts(g, 0)...)
	h := handed{k, append(anyMarks(g), 1, 2), p, q}
	h.refill(func(f *api.Fact) { *f = api.Fact{Kind: api.FAny, A: 1, B: -7} }, func(mark *int) { *mark = -7 }, func(key *string) { *key = "spare" })
	return h
}

// refill gives new lists, with spare room, which is filled.
func (h *handed) refill(fact func(f *api.Fact), mark func(mark *int), key func(key *string)) {
	h.l, h.of = spared(h.l, fact), spared(h.of, mark)
	h.p.Keys, h.q.Keys = spared(h.p.Keys, key), spared(h.q.Keys, key)
}

func spared[T any](l []T, with func(x *T)) []T {
	out := slices.Grow(slices.Clone(l), 3)
	fill(out[len(l):cap(out)], with)
	return out
}

func fill[T any](l []T, with func(x *T)) {
	for n := range l {
		with(&l[n])
	}
}

// whole tells all of it, spare room too.
func (h *handed) whole() string {
	return fmt.Sprintf("%v %v %v %v %q %q", h.funs, h.s, h.l[:cap(h.l)], h.of[:cap(h.of)], h.p.Keys[:cap(h.p.Keys)], h.q.Keys[:cap(h.q.Keys)])
}

// spoil overwrites the lists.
func (h *handed) spoil() {
	fill(h.l[:cap(h.l)], func(f *api.Fact) { f.B = -8 })
	fill(h.of[:cap(h.of)], func(mark *int) { *mark = -8 })
	fill(h.p.Keys, func(key *string) { *key = "spoilt" })
	fill(h.q.Keys, func(key *string) { *key = "spoilt" })
}

// answers are the lists that calls answer.
func (h *handed) answers(t *testing.T) [][]int {
	t.Helper()
	alias.May(h.funs, h.s, h.l, h.p, h.q)
	return [][]int{may(t, h.known, h.p), may(t, h.known, h.q), may(t, h.known, api.Path{}), alias.Load(h.l, h.of, "p")}
}

// R3, R4: what is handed in is neither written into, nor its spare room, nor kept; answers are new; calls hang on nothing else.
func TestMemory(t *testing.T) {
	for seed := range uint64(4000) {
		h := newHanded(t, seed)
		was := h.whole()
		want := fmt.Sprint(h.answers(t))
		kept, filled := h.answers(t), h.answers(t)
		for _, l := range filled {
			fill(l[:cap(l)], func(mark *int) { *mark = -9 })
		}
		if h.whole() != was {
			t.Fatalf("%s was changed, or an answer is a part of it", was)
		}
		h.spoil()
		if got := fmt.Sprint(kept); got != want {
			t.Fatalf("%s hangs on another answer, or on what was handed in, or is not %s", got, want)
		}
	}
}

// R3: nil and empty lists are one.
func TestEmpty(t *testing.T) {
	_, k, _, _ := made(t, 79, 0)
	for _, l := range [][]api.Fact{nil, {}, {{Kind: api.FIn, A: -1, B: 4}}} {
		k.l = l
		for _, keys := range [][]string{nil, {}, {""}} {
			k.points(t, api.Path{Keys: keys}, nil)
			k.may(t, api.Path{Keys: keys}, api.Path{}, false)
		}
		loads(t, l, nil, "", nil)
		loads(t, l, []int{}, "", nil)
	}
	set := k.s.Funs[0].This - 3
	k.l = []api.Fact{{Kind: api.FIn, A: set, B: 4}}
	k.may(t, api.Path{Keys: []string{}}, api.Path{}, true)
	k.points(t, api.Path{Keys: []string{}}, []int{4})
}
