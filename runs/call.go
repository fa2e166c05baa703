package runs

import (
	"strconv"

	"gumshoe/api"
	"gumshoe/value"
)

// Call is what is called, with which this, which arguments, of which mark.
type Call struct {
	What api.Val
	This api.Val
	Args []api.Val
	Mark int64
}

// Call calls, in a frame, up to the function that this comes to, and enters it.
func (r *Run) Call(f *Frame, c Call) *Frame {
	for {
		o := r.object(c.What)
		if o.Code == 0 {
			r.refuse()
		}
		r.tell(api.Event{Kind: api.ECall, A: int(c.Mark), B: o.Mark})
		switch o.Code {
		case api.CodeCall:
			r.Step()
			c = Call{c.This, first(c.Args), rest(c.Args), c.Mark}
		case api.CodeApply:
			r.Step()
			c = Call{c.This, first(c.Args), r.spread(first(rest(c.Args))), c.Mark}
		default:
			if f.calls == api.MaxCalls {
				r.end(api.WDeep)
			}
			return r.enter(&Frame{Number: o.Code, This: c.This, Self: c.What, around: r.frames[o.Frame], calls: f.calls + 1}, c.Args)
		}
	}
}

// Construct makes an object, and calls what makes it: the object is this of the frame.
func (r *Run) Construct(f *Frame, c Call) *Frame {
	if r.object(c.What).Code <= 0 {
		r.refuse()
	}
	behind, _ := r.Get(int(c.What.N), "prototype")
	if behind.Kind != api.VRef {
		behind.N = api.PlaceObject
	}
	c.This = r.alloc(api.Obj{Mark: int(c.Mark), Proto: int(behind.N)})
	return r.Call(f, c)
}

// first is the first one of arguments, if there is one.
func first(args []api.Val) api.Val {
	if len(args) == 0 {
		return api.Val{}
	}
	return args[0]
}

// rest are the others.
func rest(args []api.Val) []api.Val {
	if len(args) == 0 {
		return nil
	}
	return args[1:]
}

// spread are the arguments that apply takes from a value.
func (r *Run) spread(v api.Val) []api.Val {
	if v.Kind != api.VRef {
		return nil
	}
	p := int(v.N)
	length, _ := r.Get(p, "length")
	args := make([]api.Val, min(max(value.Num(length), 0), api.MaxApply))
	for i := range args {
		args[i], _ = r.Get(p, strconv.Itoa(i))
	}
	return args
}
