package step_test

import (
	"slices"
	"testing"

	"gumshoe/api"
)

// P11.1: what is thrown the last handler's register becomes, and it goes on at its place; then that one is none any more.
func TestHandlers(t *testing.T) {
	one, other := constant(0, num(1)), constant(1, num(2))
	for what, c := range map[string]struct {
		v             api.Val
		steps, throws int
		l             []api.Ins
	}{
		"there is none":             {num(1), 2, 1, []api.Ins{one, throw(0)}},
		"there is one":              {num(1), 4, 2, []api.Ins{one, try(2, 3), throw(0), throw(2)}},
		"it goes on backwards":      {num(1), 5, 2, []api.Ins{jump(2), throw(2), one, try(2, 1), throw(0)}},
		"the last one is first":     {num(2), 7, 3, []api.Ins{one, other, try(2, 5), try(3, 6), throw(0), throw(1), throw(0)}},
		"one register was used":     {num(2), 5, 2, []api.Ins{one, other, try(0, 4), throw(1), throw(0)}},
		"it was ended":              {num(1), 4, 1, []api.Ins{one, try(2, 4), end(), throw(0), ret(none)}},
		"the last one was ended":    {num(1), 6, 2, []api.Ins{one, try(2, 5), try(3, 6), end(), throw(0), throw(2), ret(none)}},
		"none was ended":            {num(1), 6, 2, []api.Ins{one, end(), end(), try(2, 5), throw(0), throw(2)}},
		"it was not reached":        {num(1), 3, 1, []api.Ins{one, jump(3), try(2, 4), throw(0), ret(none)}},
		"it was jumped out of":      {num(1), 5, 2, []api.Ins{one, try(2, 4), jump(3), throw(0), throw(2)}},
		"there was one just before": {num(1), 6, 3, []api.Ins{one, try(2, 3), throw(0), try(3, 5), throw(2), throw(3)}},
		"an instruction threw":      {text("TypeError"), 3, 2, []api.Ins{try(2, 2), get(0, 0, "p"), throw(2)}},
	} {
		o := ran(t, plenty, nil, proc(append(c.l, ret(none))...))
		events := append([]api.Event{entered(0)}, slices.Repeat([]api.Event{threw(-1)}, c.throws)...)
		if o.How != api.WThrow || o.V != c.v || o.Steps != c.steps || !slices.Equal(o.Events, events) {
			t.Errorf("%s: ends %d with %v behind %d steps, %v", what, o.How, o.V, o.Steps, o.Events)
		}
	}
}

// P11.1: what a call does not handle what called it does: it is told once.
func TestThrowsThroughCalls(t *testing.T) {
	throws := proc(constant(0, num(5)), throw(0), ret(none))
	through := []api.Event{called(50, 104), entered(1), threw(-1)}
	// nobody handles it
	o := ran(t, plenty, nil, made(call(6, 0, none, 50), ret(none)), throws)
	behaves(t, o, api.WThrow, num(5), makes+1+2, makings(through...)...)
	// the handler's register has become it, that of the call nothing, all others stay
	for register, want := range map[int]api.Val{0: ref(4), 1: num(11), 2: num(5), 3: num(13), 4: ref(6), 5: undef, 6: undef} {
		events := makings(append(slices.Clone(through), threw(map[int]int{0: 104, 4: 9}[register]))...)
		if want.Kind != api.VRef {
			events[len(events)-1] = threw(-1)
		}
		o = ran(t, plenty, nil, made(try(2, makes+3), call(6, 0, none, 50), ret(none), throw(register), ret(none)), throws)
		behaves(t, o, api.WThrow, want, makes+3+2, events...)
	}
	// a handler of the call's that is there no more, be it used or ended, does nothing, nor does one that it leaves behind
	for what, fun := range map[string]api.Proc{
		"used":       proc(constant(0, num(5)), try(0, 3), throw(0), throw(0), ret(none)),
		"ended":      proc(constant(0, num(5)), try(1, 4), end(), throw(0), ret(none)),
		"left there": proc(constant(0, num(5)), try(1, 2), ret(0)),
	} {
		o = ran(t, plenty, nil, made(call(6, 0, none, 50), try(7, makes+4), throw(6), ret(none), constant(6, num(6)), throw(6), ret(none)), fun)
		if want := map[string]api.Val{"used": num(5), "ended": num(5), "left there": num(6)}[what]; o.How != api.WThrow || o.V != want {
			t.Errorf("%s: ends %d with %v", what, o.How, o.V)
		}
	}
	// what the call handles itself what called it does not
	o = ran(t, plenty, nil, made(try(2, makes+3), call(6, 0, none, 50), throw(6), ret(none)), proc(constant(0, num(5)), try(1, 3), throw(0), ret(1)))
	behaves(t, o, api.WEnd, undef, makes+3+4+1, makings(called(50, 104), entered(1), threw(-1), threw(-1))...)
}

// P11.1: through calls, constructions, `call` and `apply` within each other it is thrown on.
func TestThrowsThroughAll(t *testing.T) {
	for what, i := range map[string]api.Ins{
		"calls":         call(3, 2, none, 51, 1),
		"constructions": construct(3, 2, 51, 1),
		"call":          call(3, 5, 2, 51, 7, 1),
		"apply":         call(3, 4, 2, 51, 7, 6),
	} {
		// calls itself as often as its parameter says, then throws an object
		fun := proc(
			self(2), constant(0, num(1)), variable(1, 1000), otherwise(1, 11), two(1, 1, "-", 0), object(6, 60),
			put(6, "0", 1), put(6, "length", 0), get(5, 2, "call"), get(4, 2, "apply"), i,
			object(0, 70), throw(0), ret(none))
		o := ran(t, plenty, nil, made(constant(1, num(60)), try(7, makes+4), call(6, 0, none, 50, 1), ret(none), put(4, "p", 7), throw(7), ret(none)), fun)
		throws := slices.DeleteFunc(slices.Clone(o.Events), func(e api.Event) bool { return e.Kind != api.EThrow })
		if o.How != api.WThrow || !slices.Equal(throws, []api.Event{threw(70), threw(70)}) {
			t.Errorf("%s: ends %d, %v", what, o.How, throws)
		}
		for _, f := range []api.Fact{{Kind: api.FProp, A: 9, S: "p", B: 70}, {Kind: api.FThrown, B: 70}} {
			if !slices.Contains(o.Facts, f) {
				t.Errorf("%s: no fact %v", what, f)
			}
		}
	}
}

// P11.1: what was thrown is told beside its fact where it ended the run, and there alone.
func TestThrown(t *testing.T) {
	thrown := func(o api.Outcome) []api.Fact {
		return slices.DeleteFunc(o.Facts, func(f api.Fact) bool { return f.Kind != api.FThrown })
	}
	o := ran(t, plenty, nil, proc(object(0, 9), throw(0), ret(none)))
	behaves(t, o, api.WThrow, ref(4), 2, alloc(9), threw(9))
	if l := thrown(o); !slices.Equal(l, []api.Fact{{Kind: api.FThrown, B: 9}}) {
		t.Error(l)
	}
	o = ran(t, plenty, nil, proc(object(0, 9), try(1, 3), throw(0), ret(none)))
	behaves(t, o, api.WEnd, undef, 4, alloc(9), threw(9))
	if l := thrown(o); len(l) != 0 {
		t.Error(l)
	}
	o = ran(t, plenty, nil, proc(object(0, 9), object(2, 8), try(1, 4), throw(0), throw(2), ret(none)))
	behaves(t, o, api.WThrow, ref(5), 5, alloc(9), alloc(8), threw(9), threw(8))
	if l := thrown(o); !slices.Equal(l, []api.Fact{{Kind: api.FThrown, B: 8}}) {
		t.Error(l)
	}
	o = ran(t, plenty, nil, proc(object(0, 9), try(1, 3), throw(0), throw(2), ret(none)))
	behaves(t, o, api.WThrow, undef, 4, alloc(9), threw(9), threw(-1))
	if l := thrown(o); len(l) != 0 {
		t.Error(l)
	}
}
