package runs

import (
	"iter"

	"gumshoe/api"
)

// Frame is a function that was entered.
type Frame struct {
	Number int // of the function
	Vars   []api.Val
	This   api.Val
	Self   api.Val // the closure: VUndef of the program
	around *Frame
	place  int  // among the frames
	calls  int  // how many calls it is within, its own one, too
	held   bool // a closure of it was made, which may come back to it
}

// outward goes through a frame, the one around it, and so on.
func (f *Frame) outward() iter.Seq[*Frame] {
	return func(yield func(g *Frame) bool) {
		for g := f; g != nil; g = g.around {
			if !yield(g) {
				return
			}
		}
	}
}

// Variable is where the value of the variable of a number stands.
func (f *Frame) Variable(n int64) *api.Val {
	number, place := int(n/api.VarSpan), int(n%api.VarSpan)
	of := f
nearest:
	for g := range f.outward() {
		if g.Number == number {
			of = g
			break nearest
		}
	}
	return &of.Vars[place]
}

// Program enters the program.
func (r *Run) Program() *Frame { return r.enter(&Frame{}, nil) }

// enter enters a frame's function: its parameters are the arguments.
func (r *Run) enter(f *Frame, args []api.Val) *Frame {
	r.tell(api.Event{Kind: api.EEnter, A: f.Number})
	fun := r.funs[f.Number]
	f.Vars = make([]api.Val, len(fun.Vars))
	copy(f.Vars[:fun.Params], args)
	f.place = len(r.frames)
	r.frames = append(r.frames, f)
	return f
}

// Leave lets a frame go, if nothing comes back to it: what is told of it stays as it is now.
func (r *Run) Leave(f *Frame) {
	if !f.held {
		r.framed(f)
		r.frames[f.place] = nil
	}
}
