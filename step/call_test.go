package step_test

import (
	"slices"
	"testing"

	"gumshoe/api"
	"gumshoe/step"
)

// made is what the program does first: register 0 is a closure of the function 1, of the mark 104, registers 1 to 3 are the numbers 11 to 13; register 4 is an object of the mark 9.
func made(l ...api.Ins) api.Proc {
	return proc(append([]api.Ins{closure(0, 1), constant(1, num(11)), constant(2, num(12)), constant(3, num(13)), object(4, 9)}, l...)...)
}

// makes are its steps, and its events.
const makes = 5

func makings(l ...api.Event) []api.Event {
	return append([]api.Event{alloc(104), alloc(105), alloc(9)}, l...)
}

// P11.1: what is entered has the arguments as its parameters, missing ones VUndef, and nothing else; what it returns the register becomes.
func TestCalls(t *testing.T) {
	for what, c := range map[string]struct {
		v   api.Val
		l   []int
		fun []api.Ins
	}{
		"nothing returned":      {undef, nil, []api.Ins{constant(0, num(1)), ret(none)}},
		"a register returned":   {num(1), nil, []api.Ins{constant(5, num(1)), ret(5)}},
		"no value returned":     {undef, nil, []api.Ins{constant(5, num(1)), ret(0)}},
		"the first parameter":   {num(11), []int{1, 2, 3}, []api.Ins{variable(0, 1000), ret(0)}},
		"the second parameter":  {num(12), []int{1, 2, 3}, []api.Ins{variable(0, 1001), ret(0)}},
		"what is no parameter":  {undef, []int{1, 2, 3}, []api.Ins{variable(0, 1002), ret(0)}},
		"one is missing":        {undef, []int{1}, []api.Ins{variable(0, 1001), ret(0)}},
		"all are missing":       {undef, nil, []api.Ins{variable(0, 1000), ret(0)}},
		"one twice":             {num(13), []int{3, 3}, []api.Ins{variable(0, 1001), ret(0)}},
		"the closure":           {ref(4), nil, []api.Ins{self(0), ret(0)}},
		"this":                  {undef, []int{1}, []api.Ins{this(0), ret(0)}},
		"registers begin anew":  {undef, []int{1}, []api.Ins{ret(1)}},
		"walks begin anew":      {num(5), nil, []api.Ins{next(0, 4, 2), ret(none), constant(0, num(5)), ret(0)}},
		"variables begin anew":  {undef, nil, []api.Ins{variable(1, 1000), constant(0, num(1)), set(0, 1000), ret(1)}},
		"a variable around":     {num(12), nil, []api.Ins{variable(0, 1), ret(0)}},
		"a parameter is set":    {num(12), []int{1, 2}, []api.Ins{variable(0, 1001), set(0, 1000), variable(1, 1000), ret(1)}},
		"one around is not set": {num(12), []int{1, 1}, []api.Ins{variable(0, 1000), set(0, 1001), variable(1, 1), ret(1)}},
	} {
		p := made(put(4, "p", 1), keys(4, 4), set(2, 1), call(7, 0, none, 50, c.l...), call(7, 0, none, 51, c.l...), throw(7), ret(none))
		o := ran(t, plenty, nil, p, proc(c.fun...))
		events := makings(stored(9, "p"), called(50, 104), entered(1), called(51, 104), entered(1), threw(-1))
		if c.v.Kind == api.VRef {
			events[len(events)-1] = threw(104)
		}
		if !slices.Equal(o.Events[1:], events) || o.How != api.WThrow || o.V != c.v {
			t.Errorf("%s: ends %d with %v, %v", what, o.How, o.V, o.Events)
		}
	}
}

// P11.1: a register of the one that calls stays as it is, if it is not the one that becomes what is returned.
func TestRegistersStay(t *testing.T) {
	fun := proc(constant(0, num(1)), constant(1, num(2)), constant(2, num(3)), object(3, 8), keys(4, 3), try(5, 0), ret(2))
	for register, want := range map[int]api.Val{0: num(3), 1: num(11), 2: num(12), 3: num(13), 7: undef} {
		o := ran(t, plenty, nil, made(call(0, 0, none, 50), throw(register), ret(none)), fun)
		behaves(t, o, api.WThrow, want, makes+2+7, makings(called(50, 104), entered(1), alloc(8), threw(-1))...)
	}
	o := ran(t, plenty, nil, made(put(4, "p", 1), keys(4, 4), call(0, 0, none, 50), next(5, 4, 0), throw(5), ret(none)), fun)
	behaves(t, o, api.WThrow, text("p"), makes+5+7, makings(stored(9, "p"), called(50, 104), entered(1), alloc(8), threw(-1))...)
}

// P11.1: this is what a register is, or VUndef.
func TestThis(t *testing.T) {
	fun := proc(this(0), ret(0))
	for b, want := range map[int]api.Val{none: undef, 0: ref(4), 1: num(11), 7: undef} {
		events := makings(called(50, 104), entered(1), threw(-1))
		if want.Kind == api.VRef {
			events[len(events)-1] = threw(104)
		}
		o := ran(t, plenty, nil, made(call(6, 0, b, 50), throw(6), ret(none)), fun)
		behaves(t, o, api.WThrow, want, makes+2+2, events...)
	}
}

// P11.1: a construction gives what is returned, if that is an object, else the new one, which is this; behind it is what the closure has, or gets, at `prototype`.
func TestConstructions(t *testing.T) {
	entering := []api.Event{alloc(60), called(60, 104), entered(1)}
	for what, c := range map[string]struct {
		mark int
		v    api.Val
		fun  []api.Ins
		more []api.Event
	}{
		"nothing returned":   {60, ref(7), []api.Ins{ret(none)}, nil},
		"no object returned": {60, ref(7), []api.Ins{variable(0, 1000), ret(0)}, nil},
		"this returned":      {60, ref(7), []api.Ins{this(0), ret(0)}, nil},
		"self returned":      {104, ref(4), []api.Ins{self(0), ret(0)}, nil},
		"an object returned": {8, ref(8), []api.Ins{object(0, 8), ret(0)}, []api.Event{alloc(8)}},
	} {
		o := ran(t, plenty, nil, made(construct(7, 0, 60, 1), throw(7), ret(none)), proc(c.fun...))
		events := append(makings(entering...), append(c.more, threw(c.mark))...)
		if !slices.Equal(o.Events[1:], events) || o.V != c.v {
			t.Errorf("%s: ends with %v, %v", what, o.V, o.Events)
		}
		if !slices.Contains(o.Facts, api.Fact{Kind: api.FProto, A: 60, B: 105}) || !slices.Contains(o.Facts, api.Fact{Kind: api.FThis, A: 1, B: 60}) {
			t.Errorf("%s: %v", what, o.Facts)
		}
	}
	for behind, l := range map[int][]api.Ins{0: {put(0, "prototype", 1)}, 9: {put(0, "prototype", 4)}, 104: {put(0, "prototype", 0)}, 105: nil} {
		o := ran(t, plenty, nil, made(append(l, construct(7, 0, 60), ret(none))...), proc(ret(none)))
		if !slices.Contains(o.Facts, api.Fact{Kind: api.FProto, A: 60, B: behind}) {
			t.Errorf("%d is not behind: %v", behind, o.Facts)
		}
	}
}

// P11.1: call and apply are a step each, behind their ECall, and call what they were called of, by the same mark.
func TestCallAndApply(t *testing.T) {
	// throws what this and its two parameters are, as a text
	fun := proc(this(0), variable(1, 1000), variable(2, 1001), constant(3, text("/")), two(0, 0, "+", 3), two(0, 0, "+", 1), two(0, 0, "+", 3), two(0, 0, "+", 2), throw(0), ret(none))
	const does = 9
	list := []api.Ins{put(4, "0", 1), put(4, "1", 2), put(4, "2", 3)}
	lists := []api.Event{stored(9, "0"), stored(9, "1"), stored(9, "2")}
	for what, c := range map[string]struct {
		want string
		l    []api.Ins
		put  []api.Event
		by   []int
	}{
		"call with nothing":          {"undefined/undefined/undefined", []api.Ins{get(5, 0, "call"), call(5, 5, 0, 50)}, nil, []int{2}},
		"call with this":             {"11/undefined/undefined", []api.Ins{get(5, 0, "call"), call(5, 5, 0, 50, 1)}, nil, []int{2}},
		"call with arguments":        {"12/11/13", []api.Ins{get(5, 0, "call"), call(5, 5, 0, 50, 2, 1, 3, 1)}, nil, []int{2}},
		"call of call":               {"12/13/undefined", []api.Ins{get(5, 0, "call"), call(5, 5, 5, 50, 0, 2, 3)}, nil, []int{2, 2}},
		"apply with nothing":         {"undefined/undefined/undefined", []api.Ins{get(5, 0, "apply"), call(5, 5, 0, 50)}, nil, []int{3}},
		"apply with this":            {"11/undefined/undefined", []api.Ins{get(5, 0, "apply"), call(5, 5, 0, 50, 1)}, nil, []int{3}},
		"apply with no list":         {"11/undefined/undefined", []api.Ins{get(5, 0, "apply"), call(5, 5, 0, 50, 1, 2, 3)}, nil, []int{3}},
		"apply without a length":     {"11/undefined/undefined", append(slices.Clone(list), get(5, 0, "apply"), call(5, 5, 0, 50, 1, 4)), lists, []int{3}},
		"apply with a list":          {"13/11/12", append(slices.Clone(list), put(4, "length", 1), get(5, 0, "apply"), call(5, 5, 0, 50, 3, 4, 2)), append(slices.Clone(lists), stored(9, "length")), []int{3}},
		"apply with a short list":    {"13/11/undefined", append(slices.Clone(list), constant(6, truth(1)), put(4, "length", 6), get(5, 0, "apply"), call(5, 5, 0, 50, 3, 4)), append(slices.Clone(lists), stored(9, "length")), []int{3}},
		"apply with less than none":  {"13/undefined/undefined", append(slices.Clone(list), constant(6, num(-1)), put(4, "length", 6), get(5, 0, "apply"), call(5, 5, 0, 50, 3, 4)), append(slices.Clone(lists), stored(9, "length")), []int{3}},
		"apply of call with a list":  {"11/12/13", append(slices.Clone(list), put(4, "length", 1), get(5, 0, "apply"), get(6, 0, "call"), call(5, 5, 6, 50, 0, 4)), append(slices.Clone(lists), stored(9, "length")), []int{3, 2}},
		"call of apply with nothing": {"12/undefined/undefined", []api.Ins{get(5, 0, "call"), get(6, 0, "apply"), call(5, 5, 6, 50, 0, 2)}, nil, []int{2, 3}},
	} {
		events := makings(c.put...)
		for _, mark := range c.by {
			events = append(events, called(50, mark))
		}
		events = append(events, called(50, 104), entered(1), threw(-1))
		o := ran(t, plenty, nil, made(append(slices.Clone(c.l), ret(none))...), fun)
		if o.How != api.WThrow || o.V != text(c.want) || o.Steps != makes+len(c.l)+len(c.by)+does || !slices.Equal(o.Events[1:], events) {
			t.Errorf("%s: ends %d with %v behind %d steps, %v", what, o.How, o.V, o.Steps, o.Events)
		}
	}
	// of what is called at last nothing can be called
	o := ran(t, plenty, nil, made(get(5, 0, "call"), call(6, 5, none, 50, 0), ret(none)), fun)
	behaves(t, o, api.WThrow, text("TypeError"), makes+2+1, makings(called(50, 2), threw(-1))...)
	// without the step that call is, it has been told
	o = ran(t, makes+2, nil, made(get(5, 0, "call"), call(6, 5, none, 50, 0), ret(none)), fun)
	behaves(t, o, api.WFuel, undef, makes+2, makings(called(50, 2))...)
}

// P11.1: apply takes eight at most.
func TestMaxApply(t *testing.T) {
	funs := []api.Fun{{Around: -1}, {Around: 0, Params: 10, Vars: make([]string, 10), Mark: 4}}
	for length := range int64(12) {
		l := []api.Ins{closure(0, 1), object(1, 9), constant(2, num(length)), put(1, "length", 2)}
		for n := range int64(12) {
			l = append(l, constant(2, num(n)), putAt(1, 2, 2))
		}
		l = append(l, get(3, 0, "apply"), call(3, 3, 0, 50, 4, 1), ret(none))
		fun, want := []api.Ins{constant(0, text(""))}, ""
		for n := range int64(10) {
			fun = append(fun, variable(1, 1000+n), two(0, 0, "+", 1))
			if n < min(length, 8) {
				want += string(rune('0' + n))
			} else {
				want += "undefined"
			}
		}
		o, e := step.Run(funs, []api.Proc{proc(l...), proc(append(fun, throw(0), ret(none))...)}, nil, plenty)
		if e != api.OK || o.V != text(want) {
			t.Errorf("%d: %v, not %s", length, o.V, want)
		}
	}
}

// P11.1: apply takes what stands behind the list, too.
func TestApplyBehind(t *testing.T) {
	l := made(put(4, "0", 1), put(4, "length", 1), closure(5, 2), put(5, "prototype", 4), construct(6, 5, 51), put(6, "1", 2), get(7, 0, "apply"), call(7, 7, 0, 50, 3, 6), throw(7), ret(none))
	for n, want := range []api.Val{num(11), num(12)} {
		o := ran(t, plenty, nil, l, proc(variable(0, 1000+int64(n)), ret(0)), proc(ret(none)))
		if o.How != api.WThrow || o.V != want {
			t.Errorf("%d: ends %d with %v", n, o.How, o.V)
		}
	}
}

// P11.1: closures know the frame that they were made in: what they set is set there, also when that was left.
func TestFrames(t *testing.T) {
	funs := []api.Fun{
		{Around: -1},
		{Around: 0, Params: 1, Vars: []string{"n"}, Mark: 4}, // returns a closure of 2
		{Around: 1, Mark: 6}, // n becomes n + n, and is returned
	}
	counter := []api.Proc{
		proc(),
		proc(closure(0, 2), ret(0)),
		proc(variable(0, 1000), two(0, 0, "+", 0), set(0, 1000), ret(0)),
	}
	for want, calls := range map[string][]int{"24": {3, 3}, "248": {3, 3, 3}, "2604": {3, 4, 3}, "60120240": {4, 4, 4}} {
		l := []api.Ins{closure(0, 1), constant(1, num(1)), constant(2, num(30)), call(3, 0, none, 50, 1), call(4, 0, none, 51, 2), constant(5, text(""))}
		for _, register := range calls {
			l = append(l, call(6, register, none, 52), two(5, 5, "+", 6))
		}
		code := slices.Clone(counter)
		code[0] = proc(append(l, throw(5), ret(none))...)
		o, e := step.Run(funs, code, nil, plenty)
		if e != api.OK || o.V != text(want) {
			t.Errorf("%v: %v, not %s", calls, o.V, want)
		}
	}
}

// P11.1: the 101st call within each other ends the run, behind its ECall; nobody catches that.
func TestDeep(t *testing.T) {
	// calls itself as often within itself as the number says
	fun := proc(try(7, 8), variable(0, 1000), otherwise(0, 7), constant(1, num(1)), two(0, 0, "-", 1), self(1), call(2, 1, none, 51, 0), ret(none), ret(none))
	for _, times := range []int{0, 98, 99, 100, 101, 5000} {
		o := ran(t, plenty, nil, made(constant(1, num(int64(times))), try(7, 9), call(0, 0, none, 50, 1), ret(none), ret(none)), fun)
		how, enters := api.WEnd, times+1
		if times >= 100 {
			how, enters = api.WDeep, 100
		}
		count := 0
		for _, e := range o.Events {
			if e.Kind == api.EEnter && e.A == 1 {
				count++
			}
		}
		if o.How != how || o.V != undef || count != enters {
			t.Errorf("%d: ends %d with %v, %d were entered", times, o.How, o.V, count)
		}
		if last := o.Events[len(o.Events)-1]; how == api.WDeep && last != called(51, 104) {
			t.Errorf("%d: at last %v", times, last)
		}
	}
	// call and apply enter nothing; calls behind each other, and those that a throw ended, are not within each other
	o := ran(t, plenty, nil, made(constant(1, num(500)), constant(2, num(1)), get(5, 0, "call"), otherwise(1, makes+9), two(1, 1, "-", 2), try(7, makes+3), call(6, 5, 5, 50, 5, 0, 3), jump(makes+3), ret(none), ret(none)), proc(throw(0), ret(none)))
	if o.How != api.WEnd || len(o.Events) != 4+500*6 {
		t.Errorf("ends %d, %d events", o.How, len(o.Events))
	}
}
