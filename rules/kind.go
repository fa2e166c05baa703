package rules

import (
	"slices"

	"gumshoe/api"
)

// maker makes the rules of a system, whose sets are laid.
type maker struct {
	funs []api.Fun
	api.System
}

// kinds are what adds the rules of trees: those of other kinds have none.
func (m *maker) kinds() map[int]func(t tree, at place) {
	return map[int]func(t tree, at place){
		api.XId:    m.id,
		api.XThis:  m.this,
		api.XFun:   m.closure,
		api.SFunc:  m.declaration,
		api.XObj:   m.object,
		api.XMem:   m.member,
		api.XIdx:   m.index,
		api.XSet:   m.set,
		api.XAnd:   m.either,
		api.XOr:    m.either,
		api.XCond:  m.either,
		api.XCall:  m.call,
		api.XNew:   m.construction,
		api.SVar:   m.declared,
		api.SRet:   m.ret,
		api.SThrow: m.throw,
	}
}

// rule adds the rules of a resolved program.
func (m *maker) rule(p api.Node) {
	kinds := m.kinds()
	for t, at := range m.trees(p) {
		if add, ok := kinds[t.Op]; ok && !at.target {
			add(t, at)
		}
	}
}

// add adds rules of a place's function.
func (m *maker) add(at place, l ...api.Rule) {
	for _, r := range l {
		r.F = at.fun
		m.Rules = append(m.Rules, r)
	}
}

// variable is the set of the variable of a number that the resolved program names.
func (m *maker) variable(n int64) int {
	set, _ := VarSet(m.funs, m.System, int(n))
	return set
}

// own is the set of a function's variable, by its place among them.
func (m *maker) own(fun int, v int) int { return m.variable(int64(fun*api.VarSpan + v)) }

// sub is the rule that a set is within another one.
func sub(x, y int) api.Rule { return api.Rule{Kind: api.RSub, X: x, Y: y} }

func (m *maker) id(t tree, at place) { m.add(at, sub(m.variable(t.N), t.set)) }

func (m *maker) this(t tree, at place) { m.add(at, sub(m.Funs[at.fun].This, t.set)) }

func (m *maker) closure(t tree, at place) {
	fun := int(t.N)
	m.add(at, api.Rule{Kind: api.RFun, X: t.set, N: fun})
	f := m.funs[fun]
	if v := slices.Index(f.Vars, t.S); v >= f.Params { // not below it, as a parameter is, and where there is no name
		m.add(at, api.Rule{Kind: api.RFun, X: m.own(fun, v), N: fun})
	}
}

func (m *maker) declaration(t tree, at place) {
	v := slices.Index(m.funs[at.fun].Vars, t.S)
	m.add(at, api.Rule{Kind: api.RFun, X: m.own(at.fun, v), N: int(t.N)})
}

func (m *maker) object(t tree, at place) {
	m.add(at, api.Rule{Kind: api.RObj, X: t.set, M: int(t.N)})
	for _, pair := range t.parts {
		m.add(at, api.Rule{Kind: api.RStore, X: t.set, S: pair.S, Y: pair.parts[0].set})
	}
}

func (m *maker) member(t tree, at place) {
	m.add(at, api.Rule{Kind: api.RLoad, X: t.parts[0].set, S: t.S, Y: t.set})
}

// index loads what is at any key: which one it is, the rules do not tell.
func (m *maker) index(t tree, at place) {
	m.add(at, api.Rule{Kind: api.RLoadX, X: t.parts[0].set, Y: t.set})
}

func (m *maker) set(t tree, at place) {
	to, value := t.parts[0], t.parts[1].set
	switch to.Op {
	case api.XId:
		m.add(at, sub(value, m.variable(to.N)))
	case api.XMem:
		m.add(at, api.Rule{Kind: api.RStore, X: to.parts[0].set, S: to.S, Y: value})
	case api.XIdx:
		m.add(at, api.Rule{Kind: api.RAny, X: to.parts[0].set, Y: value})
	}
	m.add(at, sub(value, t.set))
}

// either is of what has the value of one of its parts. The first one of XAnd is its value only if it counts as false, and so is no object.
func (m *maker) either(t tree, at place) {
	switch t.Op {
	case api.XOr:
		m.add(at, sub(t.parts[0].set, t.set))
		fallthrough
	case api.XAnd:
		m.add(at, sub(t.parts[1].set, t.set))
	case api.XCond:
		m.add(at, sub(t.parts[1].set, t.set), sub(t.parts[2].set, t.set))
	}
}

// none stands in the place of a this where there is none.
const none = -1

func (m *maker) call(t tree, at place) {
	what, this := t.parts[0], none
	if what.Op == api.XMem || what.Op == api.XIdx {
		this = what.parts[0].set
	}
	m.add(at, api.Rule{Kind: api.RCall, X: what.set, Z: this, L: sets(t.parts[1:]), Y: t.set, N: at.throws, M: int(t.N)})
}

func (m *maker) construction(t tree, at place) {
	m.add(at, api.Rule{Kind: api.RNew, X: t.parts[0].set, L: sets(t.parts[1:]), Y: t.set, N: at.throws, M: int(t.N)})
}

// declared is of a variable that is declared with a value, or without one.
func (m *maker) declared(t tree, at place) {
	for _, value := range t.parts {
		m.add(at, sub(value.set, m.variable(t.N)))
	}
}

func (m *maker) ret(t tree, at place) {
	for _, value := range t.parts {
		m.add(at, sub(value.set, m.Funs[at.fun].Ret))
	}
}

func (m *maker) throw(t tree, at place) { m.add(at, sub(t.parts[0].set, at.throws)) }
