package step_test

import (
	"slices"
	"strings"
	"testing"

	"gumshoe/api"
	"gumshoe/step"
)

// P11.1: an object that is one too many ends the run, and is not told; nobody handles that.
func TestTooManyObjects(t *testing.T) {
	const first = 4 // objects that are there at first
	for what, c := range map[string]struct {
		allocs int
		l      []api.Ins
	}{
		"objects":            {api.MaxObjs - first, []api.Ins{try(0, 2), object(0, 9), jump(1), ret(none)}},
		"closures":           {api.MaxObjs - first, []api.Ins{try(0, 2), closure(0, 1), jump(1), ret(none)}},
		"half a closure":     {api.MaxObjs - first, []api.Ins{object(0, 9), closure(0, 1), jump(1), ret(none)}},
		"constructions":      {api.MaxObjs - first, []api.Ins{closure(0, 1), try(1, 2), construct(1, 0, 9), jump(2), ret(none)}},
		"in what was called": {api.MaxObjs - first, []api.Ins{closure(0, 1), constant(2, num(1)), try(1, 2), call(1, 0, none, 50, 2), jump(3), ret(none)}},
	} {
		o := ran(t, 5*plenty, nil, proc(c.l...), proc(variable(0, 1000), otherwise(0, 3), object(0, 8), ret(none)))
		allocs := slices.DeleteFunc(slices.Clone(o.Events), func(e api.Event) bool { return e.Kind != api.EAlloc })
		if o.How != api.WFull || o.V != undef || len(allocs) != c.allocs {
			t.Errorf("%s: ends %d with %v, %d objects", what, o.How, o.V, len(allocs))
		}
	}
	// a closure whose second object is too many has none at `prototype`, and no register has become it
	count := constant(1, num(api.MaxObjs-first-1))
	o := ran(t, 5*plenty, nil, proc(count, constant(2, num(1)), otherwise(1, 6), object(3, 9), two(1, 1, "-", 2), jump(2), closure(0, 1), set(0, 0), ret(none)), proc(ret(none)))
	want := append(slices.Clone(o.Facts[:2]), api.Fact{Kind: api.FProto, A: 1}, api.Fact{Kind: api.FProto, A: 2, B: 1}, api.Fact{Kind: api.FProto, A: 3, B: 1}, api.Fact{Kind: api.FProto, A: 9}, api.Fact{Kind: api.FProto, A: 104, B: 1}, api.Fact{Kind: api.FEnter})
	if o.How != api.WFull || !slices.Equal(o.Facts, want) {
		t.Errorf("ends %d, %v", o.How, o.Facts)
	}
	// as many as there may be do not end it
	o = ran(t, 5*plenty, nil, proc(count, constant(2, num(1)), otherwise(1, 6), object(3, 9), two(1, 1, "-", 2), jump(2), object(3, 8), ret(none)))
	if o.How != api.WEnd {
		t.Errorf("ends %d", o.How)
	}
}

// P11.1: a text that is too big, where a sign makes it, ends the run; nobody handles that. What was handed in may be as big as it is.
func TestTooLongText(t *testing.T) {
	whole := strings.Repeat("a", api.MaxBytes)
	for _, c := range []struct {
		a, b       string
		how, steps int
	}{
		{whole, "", api.WEnd, 5},
		{"", whole, api.WEnd, 5},
		{whole, "b", api.WFull, 4},
		{"b", whole, api.WFull, 4},
		{whole[1:], "b", api.WEnd, 5},
	} {
		o := ran(t, plenty, nil, proc(try(5, 4), constant(0, text(c.a)), constant(1, text(c.b)), two(0, 0, "+", 1), ret(none)))
		behaves(t, o, c.how, undef, c.steps)
	}
	o := ran(t, plenty, nil, proc(constant(0, text(whole+"b")), object(1, 9), putAt(1, 0, 0), two(2, 0, "<", 0), throw(0), ret(none)))
	behaves(t, o, api.WThrow, text(whole+"b"), 5, alloc(9), stored(9, whole+"b"), threw(-1))
}

// P11.1: with fewer steps a run has none left, and what happens is a beginning; with more it ends likewise.
func TestFuel(t *testing.T) {
	within := [][]api.Proc{
		{made(get(5, 0, "call"), get(6, 0, "apply"), put(4, "length", 1), call(7, 5, 6, 50, 0, 1, 4), construct(7, 0, 51), ret(none)), proc(this(0), variable(1, 1000), set(0, 0), keys(2, 0), ret(0))},
		{made(try(7, makes+2), call(0, 0, none, 50), throw(7), ret(none)), proc(self(0), call(0, 0, none, 51, 0), input(1), ret(1))},
		{made(try(7, makes+2), call(0, 0, none, 50), throw(7), ret(none)), proc(object(0, 8), put(0, "p", 0), throw(0), ret(1))},
		{walked(next(3, 2, 8), putAt(1, 3, 1), jump(5), negative(0, 3), not(0, 0), move(4, 0), ret(4))},
	}
	for n, l := range within {
		whole := ran(t, plenty, nil, l...)
		if whole.How == api.WFuel || whole.Steps == 0 {
			t.Fatalf("%d: ends %d", n, whole.How)
		}
		for fuel := range whole.Steps {
			o := ran(t, fuel, nil, l...)
			if o.How != api.WFuel || o.V != undef || o.Steps != fuel || len(o.Events) > len(whole.Events) || !slices.Equal(o.Events, whole.Events[:len(o.Events)]) {
				t.Errorf("%d: %d steps: ends %d with %v, %v", n, fuel, o.How, o.V, o.Events)
			}
		}
		for _, fuel := range []int{whole.Steps, whole.Steps + 1, api.MaxFuel} {
			if !same(ran(t, fuel, nil, l...), whole) {
				t.Errorf("%d: %d steps: ends otherwise", n, fuel)
			}
		}
	}
	for _, fuel := range []int{0, 1, 17, api.MaxFuel} {
		behaves(t, ran(t, fuel, nil, proc(jump(0), ret(none))), api.WFuel, undef, fuel)
	}
	// nobody handles that there are none left
	behaves(t, ran(t, 50, nil, proc(try(0, 1), jump(1), ret(none))), api.WFuel, undef, 50)
	// apply of itself with itself has steps for that
	o := ran(t, api.MaxFuel, nil, made(get(5, 0, "apply"), constant(6, num(2)), put(4, "length", 6), put(4, "0", 5), put(4, "1", 4), call(7, 5, 5, 50, 5, 4), ret(none)), proc(ret(none)))
	if o.How != api.WFuel || o.Steps != api.MaxFuel {
		t.Errorf("ends %d behind %d steps", o.How, o.Steps)
	}
}

// R1: codes of as many registers and instructions as there may be, however often they are entered; handlers, however many.
func TestGreatCodes(t *testing.T) {
	last := api.MaxRegs - 1
	fun := api.Proc{Regs: api.MaxRegs, Ins: append(slices.Repeat([]api.Ins{constant(last, num(1))}, 2), ret(last))}
	o := ran(t, api.MaxFuel, nil, made(call(7, 0, none, 50), jump(makes), ret(none)), fun)
	if o.How != api.WFuel || o.Steps != api.MaxFuel {
		t.Errorf("ends %d behind %d steps", o.How, o.Steps)
	}
	long := slices.Repeat([]api.Ins{try(0, api.MaxIns-1), throw(1)}, api.MaxIns/2)
	long[api.MaxIns-1] = ret(none)
	for n := range int64(api.MaxIns/2 - 1) {
		long[2*n].N = 2*n + 2
	}
	o = ran(t, api.MaxFuel, nil, proc(long...))
	if o.How != api.WEnd || o.Steps != api.MaxIns || len(o.Events) != api.MaxIns/2 {
		t.Errorf("ends %d behind %d steps", o.How, o.Steps)
	}
	o = ran(t, api.MaxFuel, nil, proc(try(0, 2), jump(0), ret(none)))
	if o.How != api.WFuel {
		t.Errorf("ends %d", o.How)
	}
	var l []int
	for n := range 100000 {
		l = append(l, n%8)
	}
	o = ran(t, plenty, nil, made(call(7, 0, none, 50, l...), throw(7), ret(none)), proc(variable(0, 1001), ret(0)))
	behaves(t, o, api.WThrow, num(11), makes+2+2, makings(called(50, 104), entered(1), threw(-1))...)
}

// facts holds those of a run against those told, besides those of a code that does nothing.
func facts(t *testing.T, o api.Outcome, want ...api.Fact) {
	t.Helper()
	l := slices.DeleteFunc(slices.Clone(o.Facts), func(f api.Fact) bool { return slices.Contains(first(), f) })
	if len(l)+len(first()) != len(o.Facts) || !slices.Equal(l, want) {
		t.Errorf("facts\n%v\nnot\n%v", o.Facts, want)
	}
}

// P11.1: what is so at the end: of variables, of this, of objects, of calls, of what was entered; not of registers.
func TestFacts(t *testing.T) {
	is := func(kind int, a int, s string, b int) api.Fact { return api.Fact{Kind: kind, A: a, S: s, B: b} }
	// registers tell nothing
	facts(t, ran(t, plenty, nil, proc(object(0, 9), ret(0))), is(api.FProto, 9, "", 0))
	// variables, as they are at the end
	facts(t, ran(t, plenty, nil, proc(object(0, 9), set(0, 1), ret(none))), is(api.FVar, 1, "", 9), is(api.FProto, 9, "", 0))
	facts(t, ran(t, plenty, nil, proc(object(0, 9), set(0, 1), set(1, 1), ret(none))), is(api.FProto, 9, "", 0))
	// keys, and what stands behind
	facts(t, ran(t, plenty, nil, proc(object(0, 9), object(1, 8), put(0, "p", 1), put(0, "q", 2), ret(none))), is(api.FProp, 9, "p", 8), is(api.FProto, 8, "", 0), is(api.FProto, 9, "", 0))
	facts(t, ran(t, plenty, nil, proc(object(0, 9), put(0, "p", 0), put(0, "p", 2), ret(none))), is(api.FProto, 9, "", 0))
	facts(t, ran(t, plenty, nil, proc(closure(0, 1), ret(none)), proc(ret(none))), is(api.FProp, 104, "prototype", 105), is(api.FProto, 104, "", 1), is(api.FProto, 105, "", 0))
	// frames that were left, be it by a throw; one whose variable a closure set later on; calls, also of what is not entered
	funs := []api.Fun{{Around: -1}, {Around: 0, Params: 1, Vars: []string{"n"}, Mark: 4}, {Around: 1, Vars: []string{"m"}, Mark: 6}}
	inner := []api.Proc{proc(closure(0, 2), throw(0), ret(none)), proc(object(0, 10), set(0, 1000), object(0, 12), set(0, 2000), ret(none))}
	l := []api.Proc{proc(closure(0, 1), object(1, 14), get(2, 0, "call"), try(3, 5), call(4, 2, 0, 16, 1, 1), call(4, 3, 1, 18), ret(none)), inner[0], inner[1]}
	o, e := step.Run(funs, l, nil, plenty)
	if e != api.OK {
		t.Fatal(e)
	}
	facts(t, o,
		is(api.FVar, 1000, "", 10), is(api.FVar, 2000, "", 12), is(api.FThis, 1, "", 14), is(api.FThis, 2, "", 14),
		is(api.FProp, 4, "prototype", 5), is(api.FProp, 6, "prototype", 7),
		is(api.FProto, 4, "", 1), is(api.FProto, 5, "", 0), is(api.FProto, 6, "", 1), is(api.FProto, 7, "", 0), is(api.FProto, 10, "", 0), is(api.FProto, 12, "", 0), is(api.FProto, 14, "", 0),
		is(api.FCall, 16, "", 2), is(api.FCall, 16, "", 4), is(api.FCall, 18, "", 6), is(api.FEnter, 1, "", 0), is(api.FEnter, 2, "", 0))
}
