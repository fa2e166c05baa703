package least

import (
	"iter"
	"maps"
	"slices"

	"gumshoe/api"
	"gumshoe/bits"
)

// Kinds of topics that are no facts', but that rules ask of; api's kinds of facts are below them.
const (
	just      = 100 // the mark A alone
	atKey     = 101 // what the mark A has at the key
	setAtKey  = 102 // what the marks of the set A have at the key
	setAtAny  = 103 // what these have at any key
	setCalled = 104 // those of these that may be called
)

// known is what facts say of a system.
type known struct {
	system    api.System
	functions map[int][]int // by their marks
	had       map[topic][]int
	own       map[int][]topic // what a mark has itself, at one key or at any
	callers   map[int][]int   // the calls' numbers, by the marks that they call
}

func newKnown(s api.System, l []api.Fact) *known {
	k := &known{system: s, functions: map[int][]int{}, had: map[topic][]int{}, own: map[int][]topic{}, callers: map[int][]int{}}
	for n, f := range s.Funs {
		if n > 0 {
			k.functions[f.Mark] = append(k.functions[f.Mark], n)
		}
	}
	for of, marks := range topics(l) {
		k.had[of] = marks
		switch of.kind {
		case api.FProp, api.FAny:
			k.own[of.a] = append(k.own[of.a], of)
		case api.FCall:
			for _, mark := range marks {
				k.callers[mark] = append(k.callers[mark], of.a)
			}
		}
	}
	return k
}

// marks are what a topic has by the facts, rising.
func (k *known) marks(of topic) []int {
	switch of.kind {
	case just:
		return []int{of.a}
	case atKey:
		return k.load(of.key, of.a)
	case setAtKey:
		return k.load(of.key, k.had[in(of.a)]...)
	case setAtAny:
		return k.loadAny(k.had[in(of.a)]...)
	case setCalled:
		return k.callable(k.had[in(of.a)])
	}
	return k.had[of]
}

// load is what marks have at a key.
func (k *known) load(key string, l ...int) []int {
	var all [][]int
	for mark := range k.behind(l...) {
		all = append(all, k.had[prop(mark, key)], k.had[anyKey(mark)])
	}
	return united(all...)
}

// loadAny is what they have at any key.
func (k *known) loadAny(l ...int) []int {
	var all [][]int
	for mark := range k.behind(l...) {
		for _, of := range k.own[mark] {
			all = append(all, k.had[of])
		}
	}
	return united(all...)
}

// behind are marks and all that stand behind them, one behind the other, each once, in no order.
func (k *known) behind(l ...int) iter.Seq[int] {
	found := map[int]struct{}{}
	q := bits.New()
	find := func(l ...int) {
		for _, mark := range l {
			if _, ok := found[mark]; !ok {
				found[mark] = struct{}{}
				q.Push(mark)
			}
		}
	}
	find(l...)
	for {
		mark, ok := q.Pop()
		if !ok {
			return maps.Keys(found)
		}
		find(k.had[proto(mark)]...)
	}
}

func (k *known) callable(l []int) []int {
	return slices.DeleteFunc(slices.Clone(l), func(mark int) bool {
		return !isDevice(mark) && len(k.functions[mark]) == 0
	})
}

func isDevice(mark int) bool { return mark == markCall || mark == markApply }

// united is the union of sets.
func united(l ...[]int) []int {
	all, _ := bits.Union(l...) // no error: all are sets, as the facts are right
	return all
}
