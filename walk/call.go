package walk

import (
	"strconv"

	"gumshoe/api"
	"gumshoe/value"
)

// call is what is called, with which this, which arguments, by the tree of which mark.
type call struct {
	what api.Val
	this api.Val
	args []api.Val
	mark int
}

// call calls, in a frame: what that gives.
func (m *machine) call(f *frame, c call) api.Val {
	for {
		o := m.object(c.what)
		if o.Code == 0 {
			m.refuse()
		}
		m.tell(api.Event{Kind: api.ECall, A: c.mark, B: o.Mark})
		switch o.Code {
		case api.CodeCall:
			m.step()
			c = call{c.this, first(c.args), rest(c.args), c.mark}
		case api.CodeApply:
			m.step()
			c = call{c.this, first(c.args), m.spread(first(rest(c.args))), c.mark}
		default:
			if f.calls == api.MaxCalls {
				m.end(api.WDeep)
			}
			return m.enter(&frame{number: o.Code, around: m.frames[o.Frame], this: c.this, calls: f.calls + 1}, c)
		}
	}
}

// first is the first one of arguments, if there is one.
func first(args []api.Val) api.Val {
	if len(args) == 0 {
		return api.Val{}
	}
	return args[0]
}

// rest are the others.
func rest(args []api.Val) []api.Val {
	if len(args) == 0 {
		return nil
	}
	return args[1:]
}

// spread are the arguments that apply takes from a value.
func (m *machine) spread(v api.Val) []api.Val {
	if v.Kind != api.VRef {
		return nil
	}
	p := int(v.N)
	length, _ := m.Get(p, "length")
	args := make([]api.Val, min(max(value.Num(length), 0), api.MaxApply))
	for i := range args {
		args[i], _ = m.Get(p, strconv.Itoa(i))
	}
	return args
}

// construct makes an object, and calls what makes it.
func (m *machine) construct(f *frame, x api.Node) api.Val {
	c := call{what: m.expr(f, x.L[0]), args: m.exprs(f, x.L[1:]), mark: int(x.N)}
	if m.object(c.what).Code <= 0 {
		m.refuse()
	}
	behind, _ := m.Get(int(c.what.N), "prototype")
	if behind.Kind != api.VRef {
		behind.N = api.PlaceObject
	}
	c.this = m.alloc(api.Obj{Mark: c.mark, Proto: int(behind.N)})
	if v := m.call(f, c); v.Kind == api.VRef {
		return v
	}
	return c.this
}

// object is what api tells of an object: nothing, if the value is none.
func (m *machine) object(v api.Val) api.Obj {
	if v.Kind != api.VRef {
		return api.Obj{}
	}
	o, _ := m.Obj(int(v.N))
	return o
}

// mark is an object's: -1, if the value is none.
func (m *machine) mark(v api.Val) int {
	if v.Kind != api.VRef {
		return -1
	}
	return m.object(v).Mark
}
