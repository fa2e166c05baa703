package solve

import (
	"cmp"
	"slices"

	"gumshoe/api"
)

// facts are all that were found, sorted: set by set, and in each one mark by mark.
func (v *solver) facts() []api.Fact {
	l := make([]api.Fact, 0, v.limit-v.left)
	for _, s := range v.found() {
		slices.SortFunc(s.words, func(a, b word) int { return cmp.Compare(a.high, b.high) })
		for m := range marks(s.words...) {
			l = append(l, s.fact(m))
		}
	}
	return l
}

// found are the sets whose marks are facts, in the order of these.
func (v *solver) found() []*set {
	var l []*set
	for _, s := range v.sets {
		if s.kind <= api.FIn && len(s.words) > 0 {
			l = append(l, s)
		}
	}
	slices.SortFunc(l, func(a, b *set) int {
		return cmp.Or(cmp.Compare(a.kind, b.kind), cmp.Compare(a.a, b.a), cmp.Compare(a.key, b.key))
	})
	return l
}

// fact is what it says that a set has a mark. Functions that are entered stand in one set, as if they were its marks.
func (s *set) fact(mark int) api.Fact {
	if s.kind == api.FEnter {
		return api.Fact{Kind: s.kind, A: mark}
	}
	return api.Fact{Kind: s.kind, A: s.a, S: s.key, B: mark}
}
