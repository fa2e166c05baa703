package solve

import (
	"gumshoe/api"
	"gumshoe/bits"
)

// solver adds marks to sets, and tells them on, till there are none to be told.
type solver struct {
	*bits.Queue // sets that have marks that are not told
	system      api.System
	sets        []*set
	numbers     map[topic]int
	keyed       map[int]map[string]int // the sets of what marks have at keys
	functions   map[int][]int          // by their marks
	rules       map[int][]int          // places of rules, by their functions
	limit       int
	left        int // so many facts may still come; below 0 there are too many
}

func newSolver(s api.System, limit int) *solver {
	v := &solver{
		Queue:     bits.New(),
		system:    s,
		numbers:   map[topic]int{},
		keyed:     map[int]map[string]int{},
		functions: map[int][]int{},
		rules:     map[int][]int{},
		limit:     limit,
		left:      limit,
	}
	for n := range s.Sets {
		v.sets = append(v.sets, &set{topic: topic{api.FIn, n}})
	}
	for n, f := range s.Funs {
		if n > 0 {
			v.functions[f.Mark] = append(v.functions[f.Mark], n)
		}
	}
	for n, r := range s.Rules {
		v.rules[r.F] = append(v.rules[r.F], n)
	}
	return v
}

// solved tells all marks on, and whether there are no more facts than may be.
func (v *solver) solved() bool {
solving:
	for {
		n, ok := v.Pop()
		if !ok {
			break
		}
		s := v.sets[n]
		fresh, asked := s.tell(), s.asked // what comes to ask meanwhile looks itself at what is told
		for _, to := range s.to {
			v.put(to, fresh...)
		}
		for m := range marks(fresh...) {
			if v.left < 0 {
				break solving
			}
			for _, ask := range asked {
				ask(m)
			}
		}
	}
	return v.left >= 0
}

// put says that a set has marks. When there are too many facts, no more are noted.
func (v *solver) put(n int, l ...word) {
	s := v.sets[n]
	for _, w := range l {
		if v.left < 0 {
			return
		}
		count := s.take(w)
		if count > 0 {
			v.Push(n)
		}
		if s.kind <= api.FIn {
			v.left -= count
		}
	}
}

// add says that a set has a mark.
func (v *solver) add(n int, mark int) { v.put(n, wordOf(mark)) }

// each asks of all marks that a set has, and of those that it comes to have.
func (v *solver) each(n int, ask func(mark int)) {
	s := v.sets[n]
	s.asked = append(s.asked, ask)
	for m := range marks(s.known()...) {
		ask(m)
	}
}

// within says that sets are within another one.
func (v *solver) within(to int, from ...int) {
	for _, n := range from {
		if n != to {
			s := v.sets[n]
			s.to = append(s.to, to)
			v.put(to, s.known()...)
		}
	}
}

// number is the set of a topic, which from the first time on that it is asked for has what all sets of its kind have.
func (v *solver) number(kind int, a int) int {
	of := topic{kind, a}
	n, ok := v.numbers[of]
	if !ok {
		n = v.made(&set{topic: of})
		v.numbers[of] = n
		v.began(n, kind, a)
	}
	return n
}

func (v *solver) proto(mark int) int { return v.number(api.FProto, mark) }

// prop is the set of what a mark has itself at a key.
func (v *solver) prop(mark int, key string) int {
	keys := v.keyed[mark]
	if keys == nil {
		keys = map[string]int{}
		v.keyed[mark] = keys
	}
	n, ok := keys[key]
	if !ok {
		n = v.made(&set{topic: topic{api.FProp, mark}, key: key})
		keys[key] = n
		if every, ok := v.numbers[topic{atAny, mark}]; ok {
			v.within(every, n)
		}
	}
	return n
}

func (v *solver) made(s *set) int {
	v.sets = append(v.sets, s)
	return len(v.sets) - 1
}
