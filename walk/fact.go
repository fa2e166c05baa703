package walk

import (
	"cmp"
	"maps"
	"slices"

	"gumshoe/api"
)

// told are the facts of a run that has ended with a value, or without.
func (m *machine) told(v api.Val) []api.Fact {
	for _, f := range m.frames {
		if f != nil {
			m.framed(f)
		}
	}
	for p := range m.Len() {
		m.properties(p)
	}
	for _, e := range m.events {
		switch e.Kind {
		case api.ECall:
			m.is(api.Fact{Kind: api.FCall, A: e.A, B: e.B})
		case api.EEnter:
			m.is(api.Fact{Kind: api.FEnter, A: e.A})
		}
	}
	m.holds(api.Fact{Kind: api.FThrown}, v)
	return slices.SortedFunc(maps.Keys(m.facts), order)
}

func order(a api.Fact, b api.Fact) int {
	return cmp.Or(cmp.Compare(a.Kind, b.Kind), cmp.Compare(a.A, b.A), cmp.Compare(a.S, b.S), cmp.Compare(a.B, b.B))
}

// framed tells what a frame's variables and its this are.
func (m *machine) framed(f *frame) {
	for i, v := range f.vars {
		m.holds(api.Fact{Kind: api.FVar, A: f.number*api.VarSpan + i}, v)
	}
	m.holds(api.Fact{Kind: api.FThis, A: f.number}, f.this)
}

// properties tells what is at an object's keys, and behind it.
func (m *machine) properties(p int) {
	o, _ := m.Obj(p)
	for _, key := range m.Keys(p) {
		v, _ := m.Own(p, key)
		m.holds(api.Fact{Kind: api.FProp, A: o.Mark, S: key}, v)
	}
	if behind, e := m.Obj(o.Proto); e == api.OK {
		m.is(api.Fact{Kind: api.FProto, A: o.Mark, B: behind.Mark})
	}
}

// holds tells a fact of an object that is held somewhere: of what is no object there is none.
func (m *machine) holds(f api.Fact, v api.Val) {
	if v.Kind == api.VRef {
		f.B = m.mark(v)
		m.is(f)
	}
}

// is tells a fact.
func (m *machine) is(f api.Fact) { m.facts[f] = struct{}{} }
