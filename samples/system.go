package samples

import "gumshoe/api"

// System is a right one: of few functions, marks and keys, so that its rules come to much, and with sets that are here several things at once. Which of so many things comes next, choose tells.
func System(choose func(n int) int) api.System {
	m := systemMaker{maker{choose}, &api.System{Sets: api.Spare + choose(4)*choose(8)}}
	for range 1 + choose(5) {
		f := api.FunSets{Mark: m.mark(), This: m.set(), Ret: m.set(), Throw: m.set()}
		f.Params = m.sets(3)
		m.Funs = append(m.Funs, f)
	}
	for range choose(5) * choose(10) {
		m.Rules = append(m.Rules, m.rule())
	}
	return *m.System
}

// systemMaker makes the parts of a system.
type systemMaker struct {
	maker
	*api.System
}

// fun is a function; the first one, which is entered whatever the rules are, more often than others.
func (m systemMaker) fun() int { return m.choose(len(m.Funs)) * m.choose(2) }

func (m systemMaker) set() int { return m.choose(m.Sets) }

func (m systemMaker) sets(most int) []int {
	var l []int
	for range m.choose(most + 1) {
		l = append(l, m.set())
	}
	return l
}

func (m systemMaker) mark() int { return pick(m.maker, 4, 4, 5, 6, 7, 8, 9, 50, 99999, api.MaxMark-1) }

func (m systemMaker) rule() api.Rule {
	kind := pick(m.maker, api.RObj, api.RFun, api.RFun, api.RSub, api.RLoad, api.RLoad, api.RLoadX, api.RStore, api.RAny, api.RCall, api.RCall, api.RNew)
	r := api.Rule{Kind: kind, F: m.fun(), X: m.set()}
	switch kind {
	case api.RObj:
		r.M = m.mark() + m.choose(2)
	case api.RFun:
		r = m.closure(r)
	case api.RLoad, api.RStore:
		r.Y, r.S = m.set(), pick(m.maker, "", "p", "prototype", "call", "apply", "call", "apply")
	case api.RCall, api.RNew:
		r.Y, r.N, r.M, r.L = m.set(), m.set(), m.mark()+m.choose(2), m.sets(4)
		if kind == api.RCall {
			r.Z = m.set() - 1
		}
	default:
		r.Y = m.set()
	}
	return r
}

// closure is a rule of a closure, where there is a function above the first one.
func (m systemMaker) closure(r api.Rule) api.Rule {
	if len(m.Funs) == 1 {
		return api.Rule{Kind: api.RObj, F: r.F, X: r.X, M: m.mark()}
	}
	r.N = 1 + m.choose(len(m.Funs)-1)
	return r
}
