package step_test

import (
	"slices"
	"testing"

	"gumshoe/api"
)

// throws runs instructions that are to throw a value, behind so many steps, with the events ahead of that.
func throws(t *testing.T, v api.Val, l []api.Ins, events ...api.Event) {
	t.Helper()
	mark := -1
	if n := len(events); n > 0 && v.Kind == api.VRef { // the last one tells the mark
		mark, events = events[n-1].A, events[:n-1]
	}
	o := ran(t, plenty, []int64{7, -8}, proc(append(slices.Clone(l), throw(0), ret(none))...))
	behaves(t, o, api.WThrow, v, len(l)+1, append(slices.Clone(events), threw(mark))...)
	if t.Failed() {
		t.Fatal(l)
	}
}

// P11.1: what registers become, one step each.
func TestValues(t *testing.T) {
	for _, c := range []struct {
		v api.Val
		l []api.Ins
	}{
		{undef, nil},
		{undef, []api.Ins{constant(0, num(1)), constant(0, undef)}},
		{null(), []api.Ins{constant(0, null())}},
		{truth(0), []api.Ins{constant(0, truth(0))}},
		{truth(1), []api.Ins{constant(0, truth(1))}},
		{num(-1 << 63), []api.Ins{constant(0, num(-1<<63))}},
		{text(""), []api.Ins{constant(0, text(""))}},
		{text("a\n\xff"), []api.Ins{constant(0, text("a\n\xff"))}},
		{undef, []api.Ins{constant(1, num(1)), constant(7, num(2))}},
		{undef, []api.Ins{constant(0, num(1)), variable(0, 1)}},
		{num(5), []api.Ins{constant(1, num(5)), constant(2, num(6)), set(1, 1), set(2, 0), variable(0, 1)}},
		{num(6), []api.Ins{constant(1, num(5)), set(1, 1), constant(1, num(6)), set(1, 1), variable(0, 1)}},
		{num(5), []api.Ins{constant(1, num(5)), set(1, 1), constant(1, num(6)), variable(0, 1)}},
		{undef, []api.Ins{constant(0, num(1)), this(0)}},
		{undef, []api.Ins{constant(0, num(1)), self(0)}},
		{num(7), []api.Ins{input(0)}},
		{num(-8), []api.Ins{input(0), input(0)}},
		{num(0), []api.Ins{input(0), input(0), input(0)}},
		{num(0), []api.Ins{input(0), input(0), input(0), input(0)}},
		{num(7), []api.Ins{input(0), input(1)}},
		{truth(1), []api.Ins{not(0, 0)}},
		{truth(0), []api.Ins{constant(1, text("0")), not(0, 1)}},
		{truth(1), []api.Ins{constant(1, text("")), not(0, 1)}},
		{num(0), []api.Ins{negative(0, 0)}},
		{num(12), []api.Ins{constant(1, text("-12")), negative(0, 1)}},
		{num(-1 << 63), []api.Ins{constant(1, num(-1<<63)), negative(0, 1)}},
		{text("x"), []api.Ins{constant(1, text("x")), move(0, 1)}},
		{text("x"), []api.Ins{constant(1, text("x")), move(0, 1), constant(1, num(1))}},
		{undef, []api.Ins{constant(0, num(1)), move(0, 1)}},
		{text("1a"), []api.Ins{constant(1, num(1)), constant(2, text("a")), two(0, 1, "+", 2)}},
		{num(3), []api.Ins{constant(0, num(1)), constant(2, num(2)), two(0, 0, "+", 2)}},
		{num(3), []api.Ins{constant(1, truth(1)), constant(0, num(2)), two(0, 1, "+", 0)}},
		{num(-1), []api.Ins{constant(1, num(1)), constant(2, num(2)), two(0, 1, "-", 2)}},
		{num(6), []api.Ins{constant(1, num(3)), constant(2, num(2)), two(0, 1, "*", 2)}},
		{truth(1), []api.Ins{constant(1, num(1)), constant(2, num(2)), two(0, 1, "<", 2)}},
		{truth(0), []api.Ins{constant(1, num(2)), constant(2, num(1)), two(0, 1, "<=", 2)}},
		{truth(0), []api.Ins{constant(1, text("1")), constant(2, num(1)), two(0, 1, "===", 2)}},
		{truth(1), []api.Ins{constant(1, text("1")), constant(2, num(1)), two(0, 1, "!==", 2)}},
	} {
		throws(t, c.v, c.l)
	}
}

// P11.1: objects, and what is at their keys; what is put is told.
func TestKeys(t *testing.T) {
	throws(t, ref(4), []api.Ins{object(0, 9)}, alloc(9), threw(9))
	throws(t, ref(5), []api.Ins{object(0, 9), object(0, 8)}, alloc(9), alloc(8), threw(8))
	throws(t, undef, []api.Ins{object(1, 9), get(0, 1, "p")}, alloc(9))
	throws(t, undef, []api.Ins{constant(0, num(3)), object(1, 9), get(0, 1, "p")}, alloc(9))
	throws(t, num(3), []api.Ins{constant(2, num(3)), object(1, 9), put(1, "p", 2), get(0, 1, "p")}, alloc(9), stored(9, "p"))
	throws(t, num(3), []api.Ins{constant(0, num(3)), object(1, 9), put(1, "p", 0), get(1, 1, "q")}, alloc(9), stored(9, "p"))
	throws(t, undef, []api.Ins{constant(2, num(3)), object(1, 9), put(1, "p", 2), put(1, "p", 3), get(0, 1, "p")}, alloc(9), stored(9, "p"), stored(9, "p"))
	throws(t, num(3), []api.Ins{constant(2, num(3)), object(0, 9), put(0, "", 2), get(0, 0, "")}, alloc(9), stored(9, ""))
	// at a value's key
	throws(t, num(3), []api.Ins{constant(2, num(3)), object(1, 9), putAt(1, 2, 2), get(0, 1, "3")}, alloc(9), stored(9, "3"))
	throws(t, num(3), []api.Ins{constant(2, num(3)), object(1, 9), put(1, "3", 2), getAt(0, 1, 2)}, alloc(9), stored(9, "3"))
	throws(t, num(3), []api.Ins{constant(2, num(3)), object(1, 9), putAt(1, 1, 2), getAt(0, 1, 1)}, alloc(9), stored(9, "[object]"))
	throws(t, num(3), []api.Ins{constant(2, num(3)), object(1, 9), putAt(1, 4, 2), get(0, 1, "undefined")}, alloc(9), stored(9, "undefined"))
	throws(t, undef, []api.Ins{constant(2, num(3)), object(1, 9), putAt(1, 2, 4), getAt(0, 1, 2)}, alloc(9), stored(9, "3"))
	throws(t, ref(4), []api.Ins{object(1, 9), putAt(1, 2, 1), getAt(1, 1, 2), move(0, 1)}, alloc(9), stored(9, "undefined"), threw(9))
}

// P11.1: an object is asked for where one gets and puts, calls and constructs: nothing is done else.
func TestNoObjects(t *testing.T) {
	for _, v := range []api.Val{undef, null(), truth(1), num(4), text("call")} {
		for _, i := range []api.Ins{get(0, 1, "p"), getAt(0, 1, 2), put(1, "p", 0), putAt(1, 2, 0), call(0, 1, none, 4), call(0, 1, 2, 4, 2), construct(0, 1, 4, 2)} {
			l := []api.Ins{constant(0, num(9)), constant(1, v), object(2, 7), i}
			o := ran(t, plenty, nil, proc(append(l, ret(none))...))
			behaves(t, o, api.WThrow, text("TypeError"), 4, alloc(7), threw(-1))
			// the register has not become anything
			o = ran(t, plenty, nil, proc(append(append([]api.Ins{try(3, 6)}, l...), ret(none), throw(0), ret(none))...))
			behaves(t, o, api.WThrow, num(9), 6, alloc(7), threw(-1), threw(-1))
		}
	}
	// an object that is no function; call and apply are nothing that constructs
	behaves(t, ran(t, plenty, nil, proc(object(0, 7), call(0, 0, none, 4), ret(none))), api.WThrow, text("TypeError"), 2, alloc(7), threw(-1))
	behaves(t, ran(t, plenty, nil, proc(object(0, 7), construct(0, 0, 4), ret(none))), api.WThrow, text("TypeError"), 2, alloc(7), threw(-1))
	for _, s := range []string{"call", "apply"} {
		o := ran(t, plenty, nil, proc(closure(0, 1), get(0, 0, s), construct(0, 0, 4), ret(none)), proc(ret(none)))
		behaves(t, o, api.WThrow, text("TypeError"), 3, alloc(104), alloc(105), threw(-1))
	}
}

// P11.1: where jumps go on.
func TestJumps(t *testing.T) {
	for _, c := range []struct {
		v     api.Val
		steps int
		l     []api.Ins
	}{
		{undef, 2, []api.Ins{jump(2), constant(0, num(1)), throw(0), ret(none)}},
		{num(1), 5, []api.Ins{jump(2), jump(4), constant(0, num(1)), jump(1), throw(0), ret(none)}},
		{num(5), 3, []api.Ins{otherwise(0, 2), ret(none), constant(0, num(5)), throw(0), ret(none)}},
		{num(5), 4, []api.Ins{constant(1, num(-1)), otherwise(1, 4), constant(0, num(5)), throw(0), ret(none)}},
	} {
		o := ran(t, plenty, nil, proc(c.l...))
		behaves(t, o, api.WThrow, c.v, c.steps, threw(-1))
	}
	for v, goes := range map[api.Val]bool{undef: true, null(): true, truth(0): true, num(0): true, text(""): true, truth(1): false, num(-1): false, text("0"): false} {
		o := ran(t, plenty, nil, proc(constant(1, v), otherwise(1, 3), ret(none), throw(1), ret(none)))
		if (o.How == api.WThrow) != goes || o.Steps != 3 {
			t.Errorf("%v: ends %d behind %d steps", v, o.How, o.Steps)
		}
	}
	o := ran(t, plenty, nil, proc(object(1, 4), otherwise(1, 3), ret(none), throw(1), ret(none)))
	behaves(t, o, api.WEnd, undef, 3, alloc(4))
}

// walked is proc whose register 1 is an object of the mark 9, with 1 at the keys p, q, that walks through these by register 2.
func walked(l ...api.Ins) api.Proc {
	return proc(append([]api.Ins{object(1, 9), constant(7, num(1)), put(1, "p", 7), put(1, "q", 7), keys(2, 1)}, l...)...)
}

// P11.1: keys are walked through one by one, as they were; a register's value is nothing to what it walks through.
func TestWalks(t *testing.T) {
	const begin = 5
	events := []api.Event{alloc(9), stored(9, "p"), stored(9, "q")}
	for what, c := range map[string]struct {
		v api.Val
		l []api.Ins
	}{
		"the first one":          {text("p"), []api.Ins{next(0, 2, 0), throw(0)}},
		"the second one":         {text("q"), []api.Ins{next(0, 2, 0), next(0, 2, 0), throw(0)}},
		"none is left":           {text("q"), []api.Ins{next(0, 2, 0), next(0, 2, 0), next(0, 2, begin+4), ret(none), throw(0)}},
		"none is left again":     {text("q"), []api.Ins{next(0, 2, 0), next(0, 2, 0), next(0, 2, begin+4), ret(none), next(0, 2, begin+6), ret(none), throw(0)}},
		"the value stays":        {undef, []api.Ins{throw(2)}},
		"an older value stays":   {num(4), []api.Ins{constant(2, num(4)), keys(2, 1), throw(2)}},
		"as they were":           {num(8), []api.Ins{constant(0, num(8)), put(1, "r", 7), next(3, 2, 0), next(3, 2, 0), next(0, 2, begin+6), ret(none), throw(0)}},
		"from the first on":      {text("p"), []api.Ins{next(0, 2, 0), keys(2, 1), next(0, 2, 0), throw(0)}},
		"with a later one":       {text("r"), []api.Ins{put(1, "r", 7), keys(2, 1), next(0, 2, 0), next(0, 2, 0), next(0, 2, 0), throw(0)}},
		"into the same register": {text("q"), []api.Ins{next(2, 2, 0), next(2, 2, 0), throw(2)}},
		"behind another value":   {text("p"), []api.Ins{constant(2, num(4)), next(0, 2, 0), throw(0)}},
		"by the same register":   {text("q"), []api.Ins{keys(1, 1), next(1, 1, 0), next(1, 1, 0), throw(1)}},
		"two at once":            {text("pqp"), []api.Ins{keys(3, 1), next(4, 2, 0), next(5, 2, 0), two(4, 4, "+", 5), next(5, 3, 0), two(0, 4, "+", 5), throw(0)}},
		"no walk moves":          {undef, []api.Ins{move(3, 2), next(0, 3, begin+3), ret(none), throw(0)}},
		"a walk is not begun":    {undef, []api.Ins{next(0, 3, begin+2), ret(none), throw(0)}},
		"through nothing":        {undef, []api.Ins{keys(2, 7), next(0, 2, begin+3), ret(none), throw(0)}},
		"through what is none":   {undef, []api.Ins{keys(2, 6), next(0, 2, begin+3), ret(none), throw(0)}},
		"beside another walk":    {text("p"), []api.Ins{keys(3, 6), next(0, 3, begin+3), ret(none), next(0, 2, 0), throw(0)}},
	} {
		o := ran(t, plenty, nil, walked(append(c.l, ret(none))...))
		l := slices.DeleteFunc(slices.Clone(o.Events[1:]), func(e api.Event) bool { return e == stored(9, "r") })
		if o.How != api.WThrow || o.V != c.v || !slices.Equal(l, append(slices.Clone(events), threw(-1))) {
			t.Errorf("%s: ends %d with %v, %v", what, o.How, o.V, o.Events)
		}
	}
}

// P11.1: the keys of what stands behind are walked through, too, each once.
func TestWalkBehind(t *testing.T) {
	l := []api.Ins{closure(0, 1), put(0, "own", 1), put(0, "call", 1), keys(1, 0), next(2, 1, 7), two(3, 3, "+", 2), jump(4), throw(3), ret(none)}
	o := ran(t, plenty, nil, proc(append([]api.Ins{constant(3, text(""))}, shifted(l, 1)...)...), proc(ret(none)))
	if want := text("prototypeowncallapply"); o.V != want {
		t.Error(o.V)
	}
}

// shifted are instructions whose jumps go on so many places further.
func shifted(l []api.Ins, by int64) []api.Ins {
	l = slices.Clone(l)
	for n, i := range l {
		switch i.Op {
		case api.IJump, api.IElse, api.ITry, api.INext:
			l[n].N += by
		}
	}
	return l
}
