package walk

import (
	"slices"

	"gumshoe/api"
	"gumshoe/jtree"
	"gumshoe/runs"
)

// program is the number of the function that the program is.
const program = 0

// nowhere is the place of a name that is no variable.
const nowhere = -1

// function is what is entered: its statements, and what its variables are ahead of them.
type function struct {
	body  api.Node
	self  int // the place of its own name among its variables, or nowhere
	inner []inner
}

// inner is a function that is a variable from the first on: its number, the variable's place.
type inner struct {
	number int64
	place  int
}

// functionsOf are a resolved program's functions.
func functionsOf(funs []api.Fun, p api.Node) map[int]*function {
	l := map[int]*function{program: {body: p, self: nowhere}}
	jtree.Walk(p, func(n api.Node) bool {
		if n.Op != api.SFunc && n.Op != api.XFun {
			return true
		}
		number := int(n.N)
		fun := funs[number]
		f := &function{body: n.L[len(n.L)-1], self: nowhere}
		l[number] = f
		if n.Op == api.XFun {
			if i := slices.Index(fun.Vars, n.S); i >= fun.Params { // a parameter of that name hides it
				f.self = i
			}
			return true
		}
		around := l[fun.Around] // Walk met it ahead of what stands in it
		around.inner = append(around.inner, inner{n.N, slices.Index(funs[fun.Around].Vars, n.S)})
		return true
	})
	return l
}

// frame is a function that was entered, as far as it has come.
type frame struct {
	*runs.Frame
	returns api.Val
}

// do does what a function does that was entered: what it returns.
func (m *machine) do(entered *runs.Frame) api.Val {
	defer m.Leave(entered)
	f, does := &frame{Frame: entered}, m.functions[entered.Number]
	if does.self != nowhere {
		f.Vars[does.self] = f.Self
	}
	for _, in := range does.inner {
		f.Vars[in.place] = m.Closure(entered, in.number)
	}
	m.block(f, does.body)
	return f.returns
}
