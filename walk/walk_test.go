package walk_test

import (
	"fmt"
	"slices"
	"strings"
	"testing"

	"gumshoe/api"
	"gumshoe/samples"
	"gumshoe/walk"
)

// plenty are steps enough for what is tested with it.
const plenty = 20000

// run runs a text that is to run.
func run(t *testing.T, text string, fuel int, input ...int64) api.Outcome {
	t.Helper()
	o, line, e := walk.Run(samples.Read(text), input, fuel)
	if line != 0 || e != api.OK {
		t.Fatalf("%s: Run tells %d at %d", text, e, line)
	}
	return o
}

func text(s string) api.Val { return api.Val{Kind: api.VText, S: s} }

func num(n int64) api.Val { return api.Val{Kind: api.VNum, N: n} }

func ref(p int64) api.Val { return api.Val{Kind: api.VRef, N: p} }

// said is an event as the tests write it.
func said(e api.Event) string {
	switch {
	case e.Kind == api.EAlloc && e == (api.Event{Kind: api.EAlloc, A: e.A}):
		return fmt.Sprintf("alloc %d", e.A)
	case e.Kind == api.ECall && e.S == "":
		return fmt.Sprintf("call %d %d", e.A, e.B)
	case e.Kind == api.EPut && e.B == 0:
		return fmt.Sprintf("put %d %s", e.A, e.S)
	case e.Kind == api.EThrow && e == (api.Event{Kind: api.EThrow, A: e.A}):
		return fmt.Sprintf("throw %d", e.A)
	case e.Kind == api.EEnter && e == (api.Event{Kind: api.EEnter, A: e.A}):
		return fmt.Sprintf("enter %d", e.A)
	}
	return fmt.Sprintf("wrong %v", e)
}

func story(l []api.Event) string {
	var s []string
	for _, e := range l {
		s = append(s, said(e))
	}
	return strings.Join(s, ", ")
}

// known is a fact as the tests write it.
func known(f api.Fact) string {
	switch {
	case f.Kind == api.FVar && f.S == "":
		return fmt.Sprintf("var %d %d", f.A, f.B)
	case f.Kind == api.FThis && f.S == "":
		return fmt.Sprintf("this %d %d", f.A, f.B)
	case f.Kind == api.FProp:
		return fmt.Sprintf("prop %d %s %d", f.A, f.S, f.B)
	case f.Kind == api.FProto && f.S == "":
		return fmt.Sprintf("behind %d %d", f.A, f.B)
	case f.Kind == api.FCall && f.S == "":
		return fmt.Sprintf("call %d %d", f.A, f.B)
	case f.Kind == api.FEnter && f == (api.Fact{Kind: api.FEnter, A: f.A}):
		return fmt.Sprintf("enter %d", f.A)
	case f.Kind == api.FThrown && f == (api.Fact{Kind: api.FThrown, B: f.B}):
		return fmt.Sprintf("thrown %d", f.B)
	}
	return fmt.Sprintf("wrong %v", f)
}

func knowledge(l []api.Fact) string {
	var s []string
	for _, f := range l {
		s = append(s, known(f))
	}
	return strings.Join(s, ", ")
}

// same tells whether two runs are alike in all.
func same(a api.Outcome, b api.Outcome) bool {
	return a.How == b.How && a.V == b.V && a.Steps == b.Steps && slices.Equal(a.Events, b.Events) && slices.Equal(a.Facts, b.Facts)
}

// behaves holds a text's run against how it ends, with what, behind how many steps, and what happens.
func behaves(t *testing.T, o api.Outcome, what string, how int, v api.Val, steps int, events string) {
	t.Helper()
	if o.How != how || o.V != v {
		t.Errorf("%s: ends %d with %v, not %d with %v", what, o.How, o.V, how, v)
	}
	if o.Steps != steps {
		t.Errorf("%s: %d steps, not %d", what, o.Steps, steps)
	}
	if s := story(o.Events); s != events {
		t.Errorf("%s: happens\n%s\nnot\n%s", what, s, events)
	}
}

// ends is a text that is to end so, with so many steps, and events behind that of the program's entering.
type ends struct {
	text   string
	steps  int
	events string
}

// check runs texts that end.
func check(t *testing.T, l ...ends) {
	t.Helper()
	for _, c := range l {
		behaves(t, run(t, c.text, plenty), c.text, api.WEnd, api.Val{}, c.steps, c.all())
	}
}

func (c ends) all() string {
	if c.events == "" {
		return "enter 0"
	}
	return "enter 0, " + c.events
}

// throws runs texts whose run ends by what nobody catches.
func throws(t *testing.T, v api.Val, l ...ends) {
	t.Helper()
	for _, c := range l {
		behaves(t, run(t, c.text, plenty), c.text, api.WThrow, v, c.steps, c.all())
	}
}

// The chapter's examples.
func TestExamples(t *testing.T) {
	c := "function F() { this.p = {} } var x = new F()"
	o := run(t, c, plenty)
	behaves(t, o, c, api.WEnd, api.Val{}, 8, "enter 0, alloc 4, alloc 5, alloc 7, call 7 4, enter 1, alloc 6, put 7 p")
	want := "var 0 4, var 1 7, this 1 7, prop 1 apply 3, prop 1 call 2, prop 4 prototype 5, prop 7 p 6, behind 1 0, behind 2 1, behind 3 1, behind 4 1, behind 5 0, behind 6 0, behind 7 5, call 7 4, enter 0, enter 1"
	if s := knowledge(o.Facts); s != want {
		t.Errorf("%s: facts\n%s\nnot\n%s", c, s, want)
	}
	throws(t, text("TypeError"), ends{"null.p", 3, "throw -1"})
	// `f.call(null, 1, 2)` calls `call`, and then f, with the same mark.
	check(t, ends{"function f() { } f.call(null, 1, 2)", 9, "alloc 4, alloc 5, call 6 2, call 6 4, enter 1"})
}

// P8.1: a program that does nothing is entered, and has the facts of what is there at first.
func TestNothing(t *testing.T) {
	for _, s := range []string{"", "{ { } }"} {
		o := run(t, s, 0)
		behaves(t, o, s, api.WEnd, api.Val{}, 0, "enter 0")
		if s := knowledge(o.Facts); s != "prop 1 apply 3, prop 1 call 2, behind 1 0, behind 2 1, behind 3 1, enter 0" {
			t.Error(s)
		}
	}
}

// P8.1: ErrArg comes ahead of all that Resolve tells, and beside an error there is nothing.
func TestErrors(t *testing.T) {
	for _, c := range []struct {
		p    api.Node
		fuel int
		line int
		e    api.Errno
	}{
		{samples.Read(""), -1, 0, api.ErrArg},
		{samples.Read(""), api.MaxFuel + 1, 0, api.ErrArg},
		{samples.Read("\nbreak"), -1 << 63, 0, api.ErrArg},
		{api.Node{}, 1<<63 - 1, 0, api.ErrArg},
		{api.Node{}, 5, 0, api.ErrTree},
		{api.Node{Op: api.XNull, Line: 7}, 5, 0, api.ErrTree},
		{api.Node{Op: api.SBlock, N: 1}, 5, 0, api.ErrTree},
		{samples.Read("var a;\na;\nb"), 5, 3, api.ErrName},
		{samples.Read("var a;\n\nbreak"), 0, 3, api.ErrJump},
		{samples.Read("while (true) {\ncontinue }\nreturn"), api.MaxFuel, 3, api.ErrJump},
		{api.Node{Op: api.SBlock, L: manyVars(), Line: 4}, 9, 4, api.ErrMany},
	} {
		o, line, e := walk.Run(c.p, []int64{1}, c.fuel)
		if line != c.line || e != c.e {
			t.Errorf("fuel %d: %d at %d, not %d at %d", c.fuel, e, line, c.e, c.line)
		}
		if o.How != 0 || o.V != (api.Val{}) || o.Steps != 0 || len(o.Events) != 0 || len(o.Facts) != 0 {
			t.Errorf("%v beside the error %d", o, e)
		}
	}
}

// manyVars are one variable more than there may be.
func manyVars() []api.Node {
	var l []api.Node
	for i := range api.MaxVars + 1 {
		l = append(l, api.Node{Op: api.SVar, S: fmt.Sprintf("a%d", i)})
	}
	return l
}

// P8.1: as many steps as there may be at most.
func TestFuel(t *testing.T) {
	for _, fuel := range []int{0, 1, 17, api.MaxFuel} {
		o := run(t, "while (true) { }", fuel)
		behaves(t, o, fmt.Sprint(fuel), api.WFuel, api.Val{}, fuel, "enter 0")
	}
}

// R3: what is handed in stays as it is, spare room too, and no answer hangs on another one.
func TestMemory(t *testing.T) {
	const s = "function f(a) { this.p = a; return function() { return input } } var x = new f({q: input}); var y = f.call(x, input); for (var k in x) { y[k] = x; } x.p.q()"
	p, same := samples.Read(s), samples.Read(s)
	room := []int64{4, 5, 6, 7}
	first, _, e := walk.Run(p, room[:2], plenty)
	if e != api.OK || !slices.Equal(room, []int64{4, 5, 6, 7}) || fmt.Sprint(p) != fmt.Sprint(same) {
		t.Fatal("what was handed in has changed")
	}
	second, _, _ := walk.Run(p, room[:2], plenty)
	was := fmt.Sprint(second)
	for _, o := range []*api.Outcome{&first} {
		for i := range o.Events[:cap(o.Events)] {
			o.Events[:cap(o.Events)][i] = api.Event{Kind: 99}
		}
		for i := range o.Facts[:cap(o.Facts)] {
			o.Facts[:cap(o.Facts)][i] = api.Fact{Kind: 99}
		}
	}
	third, _, _ := walk.Run(p, room[:2], plenty)
	if fmt.Sprint(second) != was || fmt.Sprint(third) != was || fmt.Sprint(p) != fmt.Sprint(same) {
		t.Error("answers share something")
	}
}

// R3: nil and empty lists are one.
func TestNoInput(t *testing.T) {
	p := samples.Read("var o = {}; o[input] = 1")
	a, _, _ := walk.Run(p, nil, plenty)
	b, _, _ := walk.Run(p, []int64{}, plenty)
	if fmt.Sprint(a) != fmt.Sprint(b) {
		t.Error(a, b)
	}
}
