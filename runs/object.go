package runs

import (
	"gumshoe/api"
	"gumshoe/value"
)

// Object is a new object of a mark, with nothing but Object behind it.
func (r *Run) Object(mark int64) api.Val {
	return r.alloc(api.Obj{Mark: int(mark), Proto: api.PlaceObject})
}

// Closure is a new one of a function, made in a frame.
func (r *Run) Closure(f *Frame, number int64) api.Val {
	mark := r.funs[number].Mark
	f.held = true
	v := r.alloc(api.Obj{Mark: mark, Proto: api.PlaceFunction, Code: int(number), Frame: f.place})
	r.Put(int(v.N), "prototype", r.Object(int64(mark)+1))
	return v
}

// alloc is a new object.
func (r *Run) alloc(o api.Obj) api.Val {
	p, e := r.Alloc(o)
	if e != api.OK {
		r.end(api.WFull)
	}
	r.tell(api.Event{Kind: api.EAlloc, A: o.Mark})
	return api.Val{Kind: api.VRef, N: int64(p)}
}

// object is what api tells of an object: nothing, if the value is none.
func (r *Run) object(v api.Val) api.Obj {
	if v.Kind != api.VRef {
		return api.Obj{}
	}
	o, _ := r.Obj(int(v.N))
	return o
}

// mark is an object's: -1, if the value is none.
func (r *Run) mark(v api.Val) int {
	if v.Kind != api.VRef {
		return -1
	}
	return r.object(v).Mark
}

// Member is what is got of an object at a key.
func (r *Run) Member(o api.Val, key string) api.Val {
	if o.Kind != api.VRef {
		r.refuse()
	}
	v, _ := r.Get(int(o.N), key)
	return v
}

// SetMember puts a value at an object's key.
func (r *Run) SetMember(o api.Val, key string, v api.Val) {
	if o.Kind != api.VRef {
		r.refuse()
	}
	r.Put(int(o.N), key, v)
	r.tell(api.Event{Kind: api.EPut, A: r.mark(o), S: key})
}

// Read is the next number of the input.
func (r *Run) Read() api.Val {
	v := api.Val{Kind: api.VNum}
	if len(r.input) > 0 {
		v.N, r.input = r.input[0], r.input[1:]
	}
	return v
}

// Two is what a sign makes of two values.
func (r *Run) Two(sign string, a api.Val, b api.Val) api.Val {
	v, e := value.Two(sign, a, b)
	if e != api.OK {
		r.end(api.WFull)
	}
	return v
}

// KeysOf are the keys that a value has, or what stands behind it: none, if it is no object.
func (r *Run) KeysOf(v api.Val) []string {
	if v.Kind != api.VRef {
		return nil
	}
	return r.All(int(v.N))
}
