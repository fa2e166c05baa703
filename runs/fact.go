package runs

import (
	"cmp"
	"maps"
	"slices"

	"gumshoe/api"
)

// told are the facts of a run that has ended with a value, or without.
func (r *Run) told(v api.Val) []api.Fact {
	for _, f := range r.frames {
		if f != nil {
			r.framed(f)
		}
	}
	for p := range r.Len() {
		r.properties(p)
	}
	for _, e := range r.events {
		switch e.Kind {
		case api.ECall:
			r.is(api.Fact{Kind: api.FCall, A: e.A, B: e.B})
		case api.EEnter:
			r.is(api.Fact{Kind: api.FEnter, A: e.A})
		}
	}
	r.holds(api.Fact{Kind: api.FThrown}, v)
	return slices.SortedFunc(maps.Keys(r.facts), order)
}

func order(a api.Fact, b api.Fact) int {
	return cmp.Or(cmp.Compare(a.Kind, b.Kind), cmp.Compare(a.A, b.A), cmp.Compare(a.S, b.S), cmp.Compare(a.B, b.B))
}

// framed tells what a frame's variables and its this are.
func (r *Run) framed(f *Frame) {
	for i, v := range f.Vars {
		r.holds(api.Fact{Kind: api.FVar, A: f.Number*api.VarSpan + i}, v)
	}
	r.holds(api.Fact{Kind: api.FThis, A: f.Number}, f.This)
}

// properties tells what is at an object's keys, and behind it.
func (r *Run) properties(p int) {
	o, _ := r.Obj(p)
	for _, key := range r.Keys(p) {
		v, _ := r.Own(p, key)
		r.holds(api.Fact{Kind: api.FProp, A: o.Mark, S: key}, v)
	}
	if behind, e := r.Obj(o.Proto); e == api.OK {
		r.is(api.Fact{Kind: api.FProto, A: o.Mark, B: behind.Mark})
	}
}

// holds tells a fact of an object that is held somewhere: of what is no object there is none.
func (r *Run) holds(f api.Fact, v api.Val) {
	if v.Kind == api.VRef {
		f.B = r.mark(v)
		r.is(f)
	}
}

// is tells a fact.
func (r *Run) is(f api.Fact) { r.facts[f] = struct{}{} }
