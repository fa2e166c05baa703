package least

import (
	"cmp"
	"iter"
	"slices"

	"gumshoe/api"
)

// topic is what facts have in common that differ in B alone. What is so of B of a topic's facts is so of its marks.
type topic struct {
	kind int
	a    int
	key  string
}

func topicOf(f api.Fact) topic { return topic{f.Kind, f.A, f.S} }

func (t topic) fact(b int) api.Fact { return api.Fact{Kind: t.kind, A: t.a, S: t.key, B: b} }

func in(set int) topic { return topic{kind: api.FIn, a: set} }

func prop(mark int, key string) topic { return topic{api.FProp, mark, key} }

func anyKey(mark int) topic { return topic{kind: api.FAny, a: mark} }

func proto(mark int) topic { return topic{kind: api.FProto, a: mark} }

func calls(number int) topic { return topic{kind: api.FCall, a: number} }

func entered(fun int) topic { return topic{kind: api.FEnter, a: fun} }

// topics goes through sorted facts, topic by topic, with the marks of each.
func topics(l []api.Fact) iter.Seq2[topic, []int] {
	return func(yield func(of topic, marks []int) bool) {
		all := make([]int, 0, len(l)) // one list for all: there may be as many topics as facts
		from := 0
		for n, f := range l {
			all = append(all, f.B)
			of := topicOf(f)
			if n+1 < len(l) && topicOf(l[n+1]) == of {
				continue
			}
			if !yield(of, all[from:]) {
				return
			}
			from = n + 1
		}
	}
}

func order(f, g api.Fact) int {
	return cmp.Or(cmp.Compare(f.Kind, g.Kind), cmp.Compare(f.A, g.A), cmp.Compare(f.S, g.S), cmp.Compare(f.B, g.B))
}

// inOrder is a list itself, if it is sorted, else a sorted one of the same facts.
func inOrder(l []api.Fact) []api.Fact {
	if slices.IsSortedFunc(l, order) {
		return l
	}
	return slices.SortedFunc(slices.Values(l), order)
}

// merged is a new list of all facts of two sorted ones, sorted.
func merged(a, b []api.Fact) []api.Fact {
	l := make([]api.Fact, 0, len(a)+len(b))
	for len(a) > 0 && len(b) > 0 {
		if order(a[0], b[0]) < 0 {
			l, a = append(l, a[0]), a[1:]
		} else {
			l, b = append(l, b[0]), b[1:]
		}
	}
	return append(append(l, a...), b...)
}
