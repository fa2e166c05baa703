package least

import (
	"iter"

	"gumshoe/api"
	"gumshoe/bits"
)

// teller is told that a topic is to have all marks that others have.
type teller func(to topic, from ...topic)

// asking tells what something asks for.
type asking func(tell teller)

// link says that one topic is to have all marks of another one.
type link struct {
	to, from topic
}

// asked is all that was asked for, each link once, however many rules ask for it.
type asked struct {
	links map[link]struct{}
	from  map[topic][]topic
}

func (a *asked) tell(to topic, from ...topic) {
	for _, of := range from {
		if _, ok := a.links[link{to, of}]; !ok {
			a.links[link{to, of}] = struct{}{}
			a.from[to] = append(a.from[to], of)
		}
	}
}

// fresh goes through the facts that are asked for and not there, in no order.
func (k *known) fresh() iter.Seq[api.Fact] {
	a := &asked{map[link]struct{}{}, map[topic][]topic{}}
	for ask := range k.askings() {
		ask(a.tell)
	}
	return func(yield func(f api.Fact) bool) {
		for to, from := range a.from {
			for _, mark := range k.missing(to, from...) {
				if !yield(to.fact(mark)) {
					return
				}
			}
		}
	}
}

// missing are the marks that a topic is to have from others, and has not.
func (k *known) missing(to topic, from ...topic) []int {
	var all [][]int
	for _, of := range from {
		all = append(all, k.marks(of))
	}
	marks, _ := bits.Minus(united(all...), k.had[to])
	return marks
}

// askings goes through what is always asked for, what the rules of the functions that are entered ask for, and the calls of call and of apply.
func (k *known) askings() iter.Seq[asking] {
	return func(yield func(ask asking) bool) {
		for _, ask := range []asking{always, k.passed(markCall), k.passed(markApply)} {
			if !yield(ask) {
				return
			}
		}
		for _, r := range k.system.Rules {
			if len(k.had[entered(r.F)]) > 0 && !yield(k.rule(r)) {
				return
			}
		}
	}
}
