// Package runs is what the runs of programs (layer 8) and those of codes (layer 11) have in common: see shared/doc/08-walk.md.
package runs

import (
	"gumshoe/api"
	"gumshoe/heap"
)

// Run is a run, as far as it has come.
type Run struct {
	*heap.Heap
	funs   []api.Fun
	input  []int64 // what is left of it
	fuel   int
	steps  int
	events []api.Event
	facts  map[api.Fact]struct{}
	frames []*Frame // by their numbers; nil where nothing comes back to one that was left
	over   bool     // nothing is done any more, nothing caught
}

// New is a run of functions that has not begun.
func New(funs []api.Fun, input []int64, fuel int) *Run {
	return &Run{Heap: heap.New(), funs: funs, input: input, fuel: fuel, facts: map[api.Fact]struct{}{}}
}

// thrown is a value on its way to whoever catches it.
type thrown struct{ api.Val }

// ended is how a run ends that nothing in it can hold up.
type ended int

// Outcome does all that a run does, and tells how that ended.
func (r *Run) Outcome(all func()) api.Outcome {
	how, v := r.ends(all)
	return api.Outcome{How: how, V: v, Steps: r.steps, Events: r.events, Facts: r.told(v)}
}

// ends does all: how the run ends, and with what.
func (r *Run) ends(all func()) (how int, v api.Val) {
	defer func() {
		switch what := recover().(type) {
		case nil:
		case thrown:
			how, v = api.WThrow, what.Val
		case ended:
			how = int(what)
		default: // a fault of the machine's own
			panic(what)
		}
	}()
	all()
	return api.WEnd, api.Val{}
}

// Attempt does a part of it: what was thrown meanwhile, if anything was.
func (r *Run) Attempt(part func()) (v api.Val, threw bool) {
	defer func() {
		if r.over { // recovered by ends alone: to recover here, and panic again, would take longer with each attempt around
			return
		}
		switch what := recover().(type) {
		case nil:
		case thrown:
			v, threw = what.Val, true
		default:
			panic(what)
		}
	}()
	part()
	return api.Val{}, false
}

// Step begins one.
func (r *Run) Step() {
	if r.steps == r.fuel {
		r.end(api.WFuel)
	}
	r.steps++
}

// end ends the run.
func (r *Run) end(how int) {
	r.over = true
	panic(ended(how))
}

// Throw throws a value.
func (r *Run) Throw(v api.Val) {
	r.tell(api.Event{Kind: api.EThrow, A: r.mark(v)})
	r.ThrowOn(v)
}

// ThrowOn throws what was thrown before.
func (r *Run) ThrowOn(v api.Val) { panic(thrown{v}) }

// refuse is what is done where an object is asked for, and there is none.
func (r *Run) refuse() {
	r.Throw(api.Val{Kind: api.VText, S: "TypeError"})
}

// tell tells what happens.
func (r *Run) tell(e api.Event) { r.events = append(r.events, e) }
