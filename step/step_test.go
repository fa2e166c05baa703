package step_test

import (
	"fmt"
	"slices"
	"testing"

	"gumshoe/api"
	"gumshoe/samples"
	"gumshoe/step"
)

// plenty are steps enough for what is tested with it.
const plenty = 20000

// none stands in the place of a register where there is none.
const none = -1

// What instructions are written as in the tests.

func constant(d int, v api.Val) api.Ins {
	return api.Ins{Op: api.IVal, D: d, A: v.Kind, N: v.N, S: v.S}
}
func variable(d int, n int64) api.Ins       { return api.Ins{Op: api.IVar, D: d, N: n} }
func set(a int, n int64) api.Ins            { return api.Ins{Op: api.ISet, A: a, N: n} }
func this(d int) api.Ins                    { return api.Ins{Op: api.IThis, D: d} }
func input(d int) api.Ins                   { return api.Ins{Op: api.IInput, D: d} }
func self(d int) api.Ins                    { return api.Ins{Op: api.ISelf, D: d} }
func object(d int, mark int64) api.Ins      { return api.Ins{Op: api.IObj, D: d, N: mark} }
func closure(d int, number int64) api.Ins   { return api.Ins{Op: api.IFun, D: d, N: number} }
func get(d, a int, s string) api.Ins        { return api.Ins{Op: api.IGet, D: d, A: a, S: s} }
func put(a int, s string, b int) api.Ins    { return api.Ins{Op: api.IPut, A: a, S: s, B: b} }
func getAt(d, a, b int) api.Ins             { return api.Ins{Op: api.IGetX, D: d, A: a, B: b} }
func putAt(a, b, c int) api.Ins             { return api.Ins{Op: api.IPutX, A: a, B: b, C: c} }
func two(d, a int, s string, b int) api.Ins { return api.Ins{Op: api.ITwo, D: d, A: a, S: s, B: b} }
func not(d, a int) api.Ins                  { return api.Ins{Op: api.INot, D: d, A: a} }
func negative(d, a int) api.Ins             { return api.Ins{Op: api.INeg, D: d, A: a} }
func move(d, a int) api.Ins                 { return api.Ins{Op: api.IMove, D: d, A: a} }
func jump(place int64) api.Ins              { return api.Ins{Op: api.IJump, N: place} }
func otherwise(a int, place int64) api.Ins  { return api.Ins{Op: api.IElse, A: a, N: place} }
func ret(a int) api.Ins                     { return api.Ins{Op: api.IRet, A: a} }
func throw(a int) api.Ins                   { return api.Ins{Op: api.IThrow, A: a} }
func try(d int, place int64) api.Ins        { return api.Ins{Op: api.ITry, D: d, N: place} }
func end() api.Ins                          { return api.Ins{Op: api.IEnd} }
func keys(d, a int) api.Ins                 { return api.Ins{Op: api.IKeys, D: d, A: a} }
func next(d, a int, place int64) api.Ins    { return api.Ins{Op: api.INext, D: d, A: a, N: place} }
func call(d, a, b int, mark int64, l ...int) api.Ins {
	return api.Ins{Op: api.ICall, D: d, A: a, B: b, L: l, N: mark}
}
func construct(d, a int, mark int64, l ...int) api.Ins {
	return api.Ins{Op: api.INew, D: d, A: a, L: l, N: mark}
}

// What values are written as.

var undef = api.Val{}

func num(n int64) api.Val { return api.Val{Kind: api.VNum, N: n} }

func text(s string) api.Val { return api.Val{Kind: api.VText, S: s} }

func truth(n int64) api.Val { return api.Val{Kind: api.VBool, N: n} }

func null() api.Val { return api.Val{Kind: api.VNull} }

func ref(place int64) api.Val { return api.Val{Kind: api.VRef, N: place} }

// What events are written as.

func alloc(mark int) api.Event              { return api.Event{Kind: api.EAlloc, A: mark} }
func called(mark int, what int) api.Event   { return api.Event{Kind: api.ECall, A: mark, B: what} }
func stored(mark int, key string) api.Event { return api.Event{Kind: api.EPut, A: mark, S: key} }
func threw(mark int) api.Event              { return api.Event{Kind: api.EThrow, A: mark} }
func entered(number int) api.Event          { return api.Event{Kind: api.EEnter, A: number} }

// proc is one of eight registers, and so many instructions.
func proc(ins ...api.Ins) api.Proc { return api.Proc{Regs: 8, Ins: ins} }

// functions are the program, with the variables 0 and 1, and so many in it, of the marks 104, 106, .., whose parameters are two of three variables.
func functions(within int) []api.Fun {
	l := []api.Fun{{Around: -1, Vars: []string{"x", "y"}}}
	for i := range within {
		l = append(l, api.Fun{Around: 0, Params: 2, Vars: []string{"a", "b", "c"}, Mark: 104 + 2*i})
	}
	return l
}

// ran runs procs that are right as a code of functions.
func ran(t *testing.T, fuel int, in []int64, l ...api.Proc) api.Outcome {
	t.Helper()
	o, e := step.Run(functions(len(l)-1), l, in, fuel)
	if e != api.OK {
		t.Fatalf("%v: %d", l, e)
	}
	return o
}

// same tells whether two runs are alike in all.
func same(a api.Outcome, b api.Outcome) bool {
	return a.How == b.How && a.V == b.V && a.Steps == b.Steps && slices.Equal(a.Events, b.Events) && slices.Equal(a.Facts, b.Facts)
}

// behaves holds a run against how it is to end, with what, behind how many steps, and what is to happen behind the program's entering.
func behaves(t *testing.T, o api.Outcome, how int, v api.Val, steps int, events ...api.Event) {
	t.Helper()
	if o.How != how || o.V != v {
		t.Errorf("ends %d with %v, not %d with %v", o.How, o.V, how, v)
	}
	if o.Steps != steps {
		t.Errorf("%d steps, not %d", o.Steps, steps)
	}
	if events = append([]api.Event{entered(0)}, events...); !slices.Equal(o.Events, events) {
		t.Errorf("happens\n%v\nnot\n%v", o.Events, events)
	}
}

// first are the facts of a code that does nothing.
func first() []api.Fact {
	return []api.Fact{
		{Kind: api.FProp, A: 1, S: "apply", B: 3},
		{Kind: api.FProp, A: 1, S: "call", B: 2},
		{Kind: api.FProto, A: 1},
		{Kind: api.FProto, A: 2, B: 1},
		{Kind: api.FProto, A: 3, B: 1},
		{Kind: api.FEnter},
	}
}

// The chapter's example: registers are VUndef at first.
func TestExamples(t *testing.T) {
	o := ran(t, plenty, nil, proc(throw(3), ret(none)))
	behaves(t, o, api.WThrow, undef, 1, threw(-1))
	if !slices.Equal(o.Facts, first()) {
		t.Error(o.Facts)
	}
}

// P11.1: what returns ends the run, whatever it returns, and is a step as well.
func TestNothing(t *testing.T) {
	for _, a := range []int{none, 0} {
		o := ran(t, 2, nil, proc(constant(0, num(5)), ret(a)))
		behaves(t, o, api.WEnd, undef, 2)
		if !slices.Equal(o.Facts, first()) {
			t.Error(o.Facts)
		}
	}
	behaves(t, ran(t, 1, nil, proc(ret(none))), api.WEnd, undef, 1)
	behaves(t, ran(t, 0, nil, proc(ret(none))), api.WFuel, undef, 0)
}

// nothing asks that beside an error there is nothing.
func nothing(t *testing.T, what string, o api.Outcome) {
	t.Helper()
	if !same(o, api.Outcome{}) {
		t.Errorf("%s: %v beside an error", what, o)
	}
}

// P11.1: ErrArg comes ahead of ErrCode.
func TestRunErrors(t *testing.T) {
	right, wrong := []api.Proc{proc(ret(none))}, []api.Proc{proc(ret(8))}
	for _, c := range []struct {
		l    []api.Proc
		fuel int
		e    api.Errno
	}{
		{right, 0, api.OK},
		{right, api.MaxFuel, api.OK},
		{right, -1, api.ErrArg},
		{right, api.MaxFuel + 1, api.ErrArg},
		{right, -1 << 63, api.ErrArg},
		{wrong, 1<<63 - 1, api.ErrArg},
		{nil, -1, api.ErrArg},
		{wrong, 0, api.ErrCode},
		{wrong, api.MaxFuel, api.ErrCode},
		{nil, 5, api.ErrCode},
	} {
		o, e := step.Run(functions(0), c.l, []int64{1}, c.fuel)
		if e != c.e {
			t.Errorf("fuel %d: %d, not %d", c.fuel, e, c.e)
		}
		if c.e != api.OK {
			nothing(t, fmt.Sprint(c.fuel), o)
		}
	}
}

// P11.2: ErrArg comes ahead of all that Lower tells.
func TestProgramErrors(t *testing.T) {
	many := api.Node{Op: api.SBlock, Line: 4}
	for i := range api.MaxVars + 1 {
		many.L = append(many.L, api.Node{Op: api.SVar, S: fmt.Sprintf("a%d", i)})
	}
	long := api.Node{Op: api.SBlock, Line: 4, L: slices.Repeat([]api.Node{{Op: api.SThrow, L: []api.Node{{Op: api.XNull}}}}, api.MaxIns)}
	for _, c := range []struct {
		p    api.Node
		fuel int
		line int
		e    api.Errno
	}{
		{samples.Read("var a"), 0, 0, api.OK},
		{samples.Read("var a"), api.MaxFuel, 0, api.OK},
		{samples.Read("var a"), -1, 0, api.ErrArg},
		{samples.Read("var a"), api.MaxFuel + 1, 0, api.ErrArg},
		{samples.Read("\nbreak"), -1 << 63, 0, api.ErrArg},
		{api.Node{}, 1<<63 - 1, 0, api.ErrArg},
		{api.Node{}, 5, 0, api.ErrTree},
		{api.Node{Op: api.XNull, Line: 7}, 5, 0, api.ErrTree},
		{samples.Read("var a;\na;\nb"), 5, 3, api.ErrName},
		{samples.Read("var a;\n\nbreak"), 0, 3, api.ErrJump},
		{samples.Read("while (true) {\ncontinue }\nreturn"), api.MaxFuel, 3, api.ErrJump},
		{many, 9, 4, api.ErrMany},
		{long, 9, 0, api.ErrMany},
	} {
		o, line, e := step.Program(c.p, []int64{1}, c.fuel)
		if line != c.line || e != c.e {
			t.Errorf("%.80s, fuel %d: %d at %d, not %d at %d", samples.Shown(c.p), c.fuel, e, line, c.e, c.line)
		}
		if c.e != api.OK {
			nothing(t, samples.Shown(c.p), o)
		}
	}
}
