package walk

import (
	"iter"
	"slices"

	"gumshoe/api"
	"gumshoe/jtree"
)

// program is the number of the function that the program is.
const program = 0

// nowhere is the place of a name that is no variable.
const nowhere = -1

// function is what is entered: its statements, and what its variables are ahead of them.
type function struct {
	api.Fun
	body  api.Node
	self  int // the place of its own name among its variables, or nowhere
	inner []inner
}

// inner is a function that is a variable from the first on: its number, the variable's place.
type inner struct {
	number int
	place  int
}

// functionsOf are a resolved program's functions.
func functionsOf(funs []api.Fun, p api.Node) map[int]*function {
	l := map[int]*function{program: {Fun: funs[program], body: p, self: nowhere}}
	jtree.Walk(p, func(n api.Node) bool {
		if n.Op != api.SFunc && n.Op != api.XFun {
			return true
		}
		number := int(n.N)
		f := &function{Fun: funs[number], body: n.L[len(n.L)-1], self: nowhere}
		l[number] = f
		if n.Op == api.XFun {
			if i := slices.Index(f.Vars, n.S); i >= f.Params { // a parameter of that name hides it
				f.self = i
			}
			return true
		}
		around := l[f.Around] // Walk met it ahead of what stands in it
		around.inner = append(around.inner, inner{number, slices.Index(around.Vars, n.S)})
		return true
	})
	return l
}

// frame is a function that was entered.
type frame struct {
	*function
	number  int // of the function
	place   int // among the frames
	around  *frame
	vars    []api.Val
	this    api.Val
	returns api.Val
	calls   int  // how many calls it is within, its own one, too
	held    bool // a closure of it was made, which may come back to it
}

// outward goes through a frame, the one around it, and so on.
func (f *frame) outward() iter.Seq[*frame] {
	return func(yield func(g *frame) bool) {
		for g := f; g != nil; g = g.around {
			if !yield(g) {
				return
			}
		}
	}
}

// variable is where the value of the variable of a number stands.
func (f *frame) variable(n int64) *api.Val {
	number, place := int(n/api.VarSpan), int(n%api.VarSpan)
	of := f
nearest:
	for g := range f.outward() {
		if g.number == number {
			of = g
			break nearest
		}
	}
	return &of.vars[place]
}

// enter enters a function in a frame: what it returns.
func (m *machine) enter(f *frame, c call) api.Val {
	m.tell(api.Event{Kind: api.EEnter, A: f.number})
	f.function = m.functions[f.number]
	f.place = len(m.frames)
	m.frames = append(m.frames, f)
	defer m.leave(f)
	f.vars = make([]api.Val, len(f.Vars))
	copy(f.vars[:f.Params], c.args)
	if f.self != nowhere {
		f.vars[f.self] = c.what
	}
	for _, in := range f.inner {
		f.vars[in.place] = m.closure(f, in.number)
	}
	m.block(f, f.body)
	return f.returns
}

// leave lets a frame go, if nothing comes back to it: what is told of it stays as it is now.
func (m *machine) leave(f *frame) {
	if !f.held {
		m.framed(f)
		m.frames[f.place] = nil
	}
}

// closure is a new one of a function.
func (m *machine) closure(f *frame, number int) api.Val {
	mark := m.functions[number].Mark
	f.held = true
	v := m.alloc(api.Obj{Mark: mark, Proto: api.PlaceFunction, Code: number, Frame: f.place})
	m.Put(int(v.N), "prototype", m.alloc(api.Obj{Mark: mark + 1, Proto: api.PlaceObject}))
	return v
}

// alloc is a new object.
func (m *machine) alloc(o api.Obj) api.Val {
	p, e := m.Alloc(o)
	if e != api.OK {
		m.end(api.WFull)
	}
	m.tell(api.Event{Kind: api.EAlloc, A: o.Mark})
	return api.Val{Kind: api.VRef, N: int64(p)}
}
