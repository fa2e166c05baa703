package walk_test

import (
	"fmt"
	"slices"
	"strings"
	"testing"

	"gumshoe/api"
)

// longer is a program's beginning that makes texts of as many bytes as there may be.
const longer = "var s = 'a'; var n = 16; while (n) { s = s + s; n = n - 1; } "

// A text of one byte too many ends the run; nobody catches that.
func TestTooLongText(t *testing.T) {
	for text, how := range map[string]int{
		longer + "s + ''":                      api.WEnd,
		longer + "s + 'b'":                     api.WFull,
		longer + "'b' + s":                     api.WFull,
		longer + "try { s + 1 } catch (e) { }": api.WFull,
		longer + "function f() { s + s } try { f() } catch (e) { }": api.WFull,
		longer + "s < s + ''": api.WEnd,
	} {
		if o := run(t, text, plenty); o.How != how || o.V != (api.Val{}) {
			t.Errorf("%s: ends %d with %v", text, o.How, o.V)
		}
	}
}

// An object that is one too many ends the run, and is not told; nobody catches that.
func TestTooManyObjects(t *testing.T) {
	const first = 4 // objects that are there at first
	for _, c := range []struct {
		text   string
		allocs int
		last   int
	}{
		{"while (true) { ({}) }", api.MaxObjs - first, 4},
		{"while (true) { try { ({}) } catch (e) { } }", api.MaxObjs - first, 4},
		{"while (true) { (function() { }) }", api.MaxObjs - first, 5},
		{"({}); while (true) { (function() { }) }", api.MaxObjs - first, 5}, // the closure's second one is too many
		{"function F() { } while (true) { new F() }", api.MaxObjs - first, 6},
	} {
		o := run(t, c.text, 5*plenty)
		n, last := 0, -1
		for _, e := range o.Events {
			if e.Kind == api.EAlloc {
				n, last = n+1, e.A
			}
		}
		if o.How != api.WFull || o.V != (api.Val{}) || n != c.allocs || last != c.last {
			t.Errorf("%s: ends %d with %v, %d objects, the last one %d", c.text, o.How, o.V, n, last)
		}
	}
}

// As many objects as there may be do not end the run.
func TestAllObjects(t *testing.T) {
	s := fmt.Sprintf("var n = 0; while (n < %d) { n = n + 1; ({}) }", api.MaxObjs-4)
	if o := run(t, s, 5*plenty); o.How != api.WEnd {
		t.Errorf("ends %d", o.How)
	}
	s = fmt.Sprintf("var n = 0; while (n < %d) { n = n + 1; ({}) } ({})", api.MaxObjs-4)
	if o := run(t, s, 5*plenty); o.How != api.WFull {
		t.Errorf("ends %d", o.How)
	}
}

// A closure whose second object is too many has none at `prototype`, and is no variable's value.
func TestHalfAClosure(t *testing.T) {
	s := fmt.Sprintf("var n = 0; while (n < %d) { n = n + 1; ({}) } var f = function() { }", api.MaxObjs-5)
	o := run(t, s, 5*plenty)
	want := "prop 1 apply 3, prop 1 call 2, behind 1 0, behind 2 1, behind 3 1, behind 4 0, behind 5 1, enter 0"
	if o.How != api.WFull || knowledge(o.Facts) != want {
		t.Errorf("ends %d, facts %s", o.How, knowledge(o.Facts))
	}
}

// With the step that would be one more the run ends, wherever that is.
func TestNoStepsLeft(t *testing.T) {
	for _, c := range []struct {
		text   string
		fuel   int
		events string
	}{
		{"var a = {}", 1, "enter 0"},
		{"({a: {}})", 2, "enter 0, alloc 4"},
		{"function f() { } f()", 0, "enter 0, alloc 4, alloc 5"},
		{"function f() { } f()", 3, "enter 0, alloc 4, alloc 5"},
		{"function f() { 1 } f()", 4, "enter 0, alloc 4, alloc 5, call 6 4, enter 1"},
		{"function f() { } f.call()", 5, "enter 0, alloc 4, alloc 5, call 6 2"},
		{"function f() { } f.apply()", 5, "enter 0, alloc 4, alloc 5, call 6 3"},
		{"try { throw 1 } catch (e) { ({}) }", 3, "enter 0, throw -1"},
		{"try { ({}) } catch (e) { ({}) }", 2, "enter 0"},
		{"var o = {}; o.p = 1", 5, "enter 0, alloc 4"},
	} {
		behaves(t, run(t, c.text, c.fuel), c.text, api.WFuel, api.Val{}, c.fuel, c.events)
		if o := run(t, c.text, c.fuel+1); o.How == api.WFuel && o.Steps != c.fuel+1 {
			t.Errorf("%s: %d steps of %d", c.text, o.Steps, c.fuel+1)
		}
	}
}

// `apply` of itself with itself goes on for ever, and has steps for that.
func TestEndlessApply(t *testing.T) {
	const s = "var a = (function() { }).apply; var o = {length: 2}; o[0] = a; o[1] = o; a.apply(a, o)"
	if o := run(t, s, api.MaxFuel); o.How != api.WFuel || o.Steps != api.MaxFuel {
		t.Errorf("ends %d, %d steps", o.How, o.Steps)
	}
}

// corpus are programs that do much.
func corpus() []string {
	return []string{
		"function F(a) { this.p = a; this.q = {}; } F.prototype.m = function(b) { return b ? this.m(b - 1) : this.q }; var x = new F({}); x.m(3).r = x",
		"function f(a, b) { for (var k in a) { b[k] = a[k]; } return b } var z = f.call(null, {u: {}, v: f}, {}); z.v.apply({}, {0: z, 1: {}, length: 2})",
		"var t = {}; try { t.a.b.c } catch (e) { t[e] = e; } try { throw t } catch (e) { e.x = function g(n) { return n && g(n - 1) }; e.x(3) }",
		"function A() { } function B() { } B.prototype = new A(); A.prototype.h = function() { throw this }; try { new B().h() } catch (e) { e.i = input } e.h()",
		"var i = input; while (i) { i = i - 1; if (i === 2) { continue; } if (i < 1) { break; } ({n: i}) } null()",
		"function f() { return function() { return f } } f()()()()",
	}
}

// P8.2: with fewer steps each run has a beginning of the events; with more it ends likewise.
func TestMoreSteps(t *testing.T) {
	for _, s := range corpus() {
		whole := run(t, s, plenty, 4)
		if whole.How == api.WFuel {
			t.Fatalf("%s does not end", s)
		}
		for fuel := range whole.Steps + 3 {
			o := run(t, s, fuel, 4)
			if fuel >= whole.Steps {
				if !same(o, whole) {
					t.Errorf("%s: with the fuel %d it ends otherwise", s, fuel)
				}
				continue
			}
			if o.How != api.WFuel || o.V != (api.Val{}) || o.Steps != fuel || len(o.Events) > len(whole.Events) || !slices.Equal(o.Events, whole.Events[:len(o.Events)]) {
				t.Errorf("%s: with the fuel %d %s", s, fuel, story(o.Events))
			}
		}
	}
}

// Lines, and names that are written otherwise, make no difference.
func TestLinesAndNames(t *testing.T) {
	const s = "function f(a, b) { var c = a; return function g() { return c + b } } var o = {}; o[f(1, 2)()] = 0; throw o"
	one := run(t, s, plenty)
	other := strings.NewReplacer("(a, b)", "(x, y)", "var c = a", "var z = x", "c + b", "z + y", "function g", "function own", "; ", "\n\n").Replace(s)
	if two := run(t, other, plenty); !same(one, two) {
		t.Errorf("%v is not %v", one, two)
	}
}
