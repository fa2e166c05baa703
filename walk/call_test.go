package walk_test

import (
	"fmt"
	"strings"
	"testing"

	"gumshoe/api"
)

// As a function is entered, its closures come to be, as Walk meets them, in blocks too, but not those of functions within.
func TestEntering(t *testing.T) {
	check(t,
		ends{"function f() { }", 1, "alloc 4, alloc 5"},
		ends{"if (0) { function f() { function g() { } } } function h() { }", 3, "alloc 4, alloc 5, alloc 8, alloc 9"},
		ends{"function f() { function g() { } g(); } f()", 8, "alloc 4, alloc 5, call 9 4, enter 1, alloc 6, alloc 7, call 8 6, enter 2"},
		ends{"var f = function() { function g() { } }", 2, "alloc 4, alloc 5"},
		ends{"f(); function f() { } f = 0; function f() { }", 8, "alloc 5, alloc 6, alloc 7, alloc 8, call 4 7, enter 2"},
		ends{"while (f) { f = 0; function f() { } }", 7, "alloc 4, alloc 5"},
		ends{"function f() { return function() { } } f()", 6, "alloc 4, alloc 5, call 8 4, enter 1, alloc 6, alloc 7"},
	)
	throws(t, text("TypeError"), ends{"f(); var f = function() { }", 3, "throw -1"})
}

// The first object of a closure has the second one at `prototype`.
func TestClosure(t *testing.T) {
	check(t, ends{"function f() { } for (var k in f) { f[k][k] = 0 } f.prototype.p = 0", 29, "alloc 4, alloc 5, put 5 prototype, put 2 call, put 3 apply, put 5 p"})
}

// Parameters are arguments, in order; a name that stands twice is one.
func TestParameters(t *testing.T) {
	for _, c := range []struct {
		params, args, body string
		key                string
	}{
		{"a, b", "1, 2", "a + '/' + b", "1/2"},
		{"a, b", "1", "a + '/' + b", "1/undefined"},
		{"a, b", "", "a + '/' + b", "undefined/undefined"},
		{"a, b", "1, 2, 3, 4", "a + '/' + b", "1/2"},
		{"a, b, a, c", "1, 2, 3, 4", "a + '/' + b + '/' + c", "1/2/3"},
		{"f", "1", "f", "1"},
		{"", "1", "f === g", "true"},
		{"a", "a = 1, a", "a", "1"},
	} {
		s := fmt.Sprintf("var o = {}; var a; var g = function f(%s) { o[%s] = 0; }; g(%s)", c.params, c.body, c.args)
		o := run(t, s, plenty)
		if want := "enter 0, alloc 4, alloc 5, alloc 6, call 7 5, enter 1, put 4 " + c.key; story(o.Events) != want {
			t.Errorf("%s: %s, not %s", s, story(o.Events), want)
		}
	}
}

// A variable of the function within, or of the one around, is meant, as names are found; each entering has variables of its own.
func TestFrames(t *testing.T) {
	const o = "var o = {}; "
	for _, c := range []struct{ text, keys string }{
		{"function f(n) { var v = n; return function() { v = v + 1; return v } } var a = f(1); var b = f(5); o[a()] = 0; o[a()] = 0; o[b()] = 0; o[a()] = 0", "2 3 6 4"},
		{"var v = 'p'; function f() { o[v] = 0; v = 'f'; } f(); o[v] = 0", "p f"},
		{"var v = 'p'; function f() { o[v] = 0; var v = 'f'; o[v] = 0; } f(); o[v] = 0", "undefined f p"},
		{"function f(n) { if (n) { f(n - 1); } o[n] = 0; } f(2)", "0 1 2"},
		{"function f(a) { return function(b) { return function(c) { return a + b + c } } } o[f('x')('y')('z')] = 0", "xyz"},
		{"function f(a, g) { if (g) { return g() } return f(2, function() { return a }) } o[f(1)] = 0", "1"},
		{"function f() { f = 'n'; } f(); o[f] = 0", "n"},
		{"var g = function f() { f = 'n'; return f }; o[g()] = 0; o[g === 'n'] = 0", "n false"},
		{"var g = function f() { function f() { } return f === g }; o[g()] = 0", "false"},
		{"var g = function f() { var f; return f === g }; o[g()] = 0", "true"},
		{"function f() { v = 'w'; } var v; f(); o[v] = 0", "w"},
	} {
		keeps(t, o+c.text, c.keys)
	}
}

// keeps holds the keys that are put against those told.
func keeps(t *testing.T, s string, want string, input ...int64) {
	t.Helper()
	var keys []string
	for _, e := range run(t, s, plenty, input...).Events {
		if e.Kind == api.EPut {
			keys = append(keys, e.S)
		}
	}
	if got := strings.Join(keys, " "); got != want {
		t.Errorf("%s: puts %s, not %s", s, got, want)
	}
}

// What a call gives is what is returned, VUndef without; this is the object that a member is called of, else VUndef.
func TestCalls(t *testing.T) {
	const o = "var o = {}; "
	for _, c := range []struct{ text, keys string }{
		{"function f() { return 1 } o[f()] = 0", "1"},
		{"function f() { return } o[f()] = 0", "undefined"},
		{"function f() { 1 } o[f()] = 0", "undefined"},
		{"function f() { while (true) { if (1) { return 'in' } } } o[f()] = 0", "in"},
		{"function f() { for (var k in {a: 1}) { return k } } o[f()] = 0", "a a"},
		{"function f() { try { return 't' } catch (e) { return 'c' } } o[f()] = 0", "t"},
		{"function f() { try { throw 'x' } catch (e) { return e } } o[f()] = 0", "x"},
		{"function f() { return this } o[f()] = 0; o[(true && f)()] = 0; o.f = f; o[o.f() === o] = 0; o[o['f']() === o] = 0; o[(o.f)() === o] = 0", "undefined undefined f true true true"},
		{"o.f = function() { return function() { return this } }; o[o.f()()] = 0", "f undefined"},
	} {
		keeps(t, o+c.text, c.keys)
	}
	check(t,
		// the object, the key, what is got, then the arguments, then the call
		ends{"var o = {f: function() { }}; o.f(o.f = {})", 10, "alloc 4, alloc 5, alloc 6, put 4 f, alloc 8, put 4 f, call 7 5, enter 1"},
		ends{"var o = {f: function() { }}; o[(o.k = 'f')](o.f = {}, {})", 14, "alloc 4, alloc 5, alloc 6, put 4 f, put 4 k, alloc 8, put 4 f, alloc 9, call 7 5, enter 1"},
		ends{"function f() { } f(f = {}, {})", 7, "alloc 4, alloc 5, alloc 7, alloc 8, call 6 4, enter 1"},
		ends{"(function() { })(1)", 4, "alloc 5, alloc 6, call 4 5, enter 1"},
	)
}

// A construction: the object comes to be behind the arguments, and ahead of the call; what it is called with as this is it.
func TestConstructions(t *testing.T) {
	check(t,
		ends{"function F() { } new F({})", 5, "alloc 4, alloc 5, alloc 7, alloc 6, call 6 4, enter 1"},
		ends{"function F(a) { this[a] = 0 } new F('k')", 10, "alloc 4, alloc 5, alloc 6, call 6 4, enter 1, put 6 k"},
		ends{"function F() { return {} } var x = new F(); x.p = 0", 10, "alloc 4, alloc 5, alloc 7, call 7 4, enter 1, alloc 6, put 6 p"},
		ends{"function F() { return F } var x = new F(); x.p = 0", 10, "alloc 4, alloc 5, alloc 6, call 6 4, enter 1, put 4 p"},
		ends{"function F() { return 'text' } var x = new F(); x.p = 0", 10, "alloc 4, alloc 5, alloc 6, call 6 4, enter 1, put 6 p"},
		ends{"function F() { } var x = new F(); x.p = 0", 8, "alloc 4, alloc 5, alloc 6, call 6 4, enter 1, put 6 p"},
		ends{"var o = {F: function() { }}; var x = new o.F(1); x.p = 0", 12, "alloc 4, alloc 5, alloc 6, put 4 F, alloc 7, call 7 5, enter 1, put 7 p"},
	)
	throws(t, ref(4), ends{"function F() { throw F } new F()", 6, "alloc 4, alloc 5, alloc 6, call 6 4, enter 1, throw 4"})
}

// Behind what is constructed stands what the value has at `prototype`, own or got, if that is an object.
func TestBehind(t *testing.T) {
	for _, c := range []struct{ text, behind string }{
		{"function F() { } var x = new F()", "behind 6 5"},
		{"function F() { } F.prototype = F; var x = new F()", "behind 6 4"},
		{"function F() { } F.prototype = 1; var x = new F()", "behind 6 0"},
		{"function F() { } F.prototype = undefined; var x = new F()", "behind 6 0"},
		{"function F() { } F.prototype = {}.call; var x = new F()", "behind 7 0"},
		{"function F() { } F.prototype = F.call; var x = new F()", "behind 6 2"},
		{"var f = function() { this.prototype = {}; }; new f()", "behind 7 5"},
	} {
		facts := ", " + knowledge(run(t, c.text, plenty).Facts) + ","
		if !strings.Contains(facts, ", "+c.behind+",") {
			t.Errorf("%s: %s, without %s", c.text, facts, c.behind)
		}
	}
}

// `call` and `apply` are steps, and call on, with the same mark, what they were called of.
func TestCallAndApply(t *testing.T) {
	const f = "var o = {}; function f(a, b) { o[this + '/' + a + '/' + b] = 0; return 'r' } "
	for _, c := range []struct{ text, keys string }{
		{"f.call()", "undefined/undefined/undefined"},
		{"f.call(1)", "1/undefined/undefined"},
		{"f.call(o, 2, 3, 4)", "[object]/2/3"},
		{"f.apply()", "undefined/undefined/undefined"},
		{"f.apply(1)", "1/undefined/undefined"},
		{"f.apply(1, 2)", "1/undefined/undefined"},
		{"f.apply(1, '22')", "1/undefined/undefined"},
		{"f.apply(1, null)", "1/undefined/undefined"},
		{"f.apply(1, {})", "1/undefined/undefined"},
		{"f.apply(1, {0: 'x', 1: 'y'})", "0 1 1/undefined/undefined"},
		{"f.apply(1, {0: 'x', 1: 'y', length: 1}, 7)", "0 1 length 1/x/undefined"},
		{"f.apply(1, {0: 'x', 1: 'y', length: '2'})", "0 1 length 1/x/y"},
		{"f.apply(1, {0: 'x', 1: 'y', length: true})", "0 1 length 1/x/undefined"},
		{"f.apply(1, {0: 'x', 1: 'y', length: 'x'})", "0 1 length 1/undefined/undefined"},
		{"f.apply(1, {0: 'x', 1: 'y', length: -1})", "0 1 length 1/undefined/undefined"},
		{"f.apply(1, {0: 'x', 1: 'y', length: 999999999999999})", "0 1 length 1/x/y"},
		{"f.apply(1, {0: 'x', 1: 'y', length: {}})", "0 1 length 1/undefined/undefined"},
		{"f.apply(1, {1: 'y', length: 2})", "1 length 1/undefined/y"},
		{"o[f.call()] = 0; o[f.apply()] = 0", "undefined/undefined/undefined r undefined/undefined/undefined r"},
		{"f.call.call(f, 5, 6)", "5/6/undefined"},
		{"f.apply.call(f, 5, {0: 6, length: 1})", "0 length 5/6/undefined"},
		{"f.call.apply(f, {0: 5, 1: 6, 2: 7, length: 3})", "0 1 2 length 5/6/7"},
		{"f.q = 1; f[0] = 'x'; f.length = 1; f.apply(2, f)", "q 0 length 2/x/undefined"},
		{"function G() { } G.prototype[0] = 'g'; G.prototype.length = 1; f.apply(3, new G())", "0 length 3/g/undefined"},
	} {
		keeps(t, f+c.text, c.keys)
	}
	check(t,
		ends{"function f() { } f.call.call.call(f)", 10, "alloc 4, alloc 5, call 6 2, call 6 2, call 6 4, enter 1"},
		ends{"function f() { } f.apply(1, {length: 0})", 9, "alloc 4, alloc 5, alloc 7, put 7 length, call 6 3, call 6 4, enter 1"},
	)
	throws(t, text("TypeError"),
		ends{"function f() { } f.call.call(1)", 9, "alloc 4, alloc 5, call 6 2, call 6 2, throw -1"},
		ends{"function f() { } f.apply.apply({}, 1)", 10, "alloc 4, alloc 5, alloc 7, call 6 3, call 6 3, throw -1"},
		ends{"function f() { } var c = f.call; c()", 8, "alloc 4, alloc 5, call 6 2, throw -1"},
	)
}

// apply takes eight arguments at most, from the key 0 on.
func TestMaxApply(t *testing.T) {
	var names, pairs []string
	for i := range 10 {
		names, pairs = append(names, fmt.Sprintf("a%d", i)), append(pairs, fmt.Sprintf("%d: %d", i, i))
	}
	for length, want := range []string{0: "", 1: "0", 7: "0123456", 8: "01234567", 9: "01234567", 10: "01234567"} {
		if length > 1 && length < 7 {
			continue
		}
		s := fmt.Sprintf("var o = {}; function f(%s) { o['' + %s] = 0 } f.apply(1, {length: %d, %s})",
			strings.Join(names, ", "), strings.Join(names, " + '' + "), length, strings.Join(pairs, ", "))
		want += strings.Repeat("undefined", 10-len(want))
		keeps(t, s, "length 0 1 2 3 4 5 6 7 8 9 "+want)
	}
}

// The 101st call within each other ends the run, behind its ECall; `call` and `apply` enter nothing, and count for none.
func TestDeep(t *testing.T) {
	for _, c := range []string{
		"function f(n) { if (n) { f(n - 1); } } f(%d)",
		"function f(n) { if (n) { f.call(1, n - 1); } } f(%d)",
		"function f(n) { if (n) { f.apply(1, {0: n - 1, length: 1}); } } f(%d)",
		"function f(n) { if (n) { new f(n - 1); } } f(%d)",
		"function f(n) { try { if (n) { f(n - 1); } } catch (e) { } } f(%d)",
	} {
		s := fmt.Sprintf(c, api.MaxCalls-1)
		o := run(t, s, plenty)
		if o.How != api.WEnd || entered(o) != api.MaxCalls+1 {
			t.Errorf("%s: ends %d, %d were entered", s, o.How, entered(o))
		}
		s = fmt.Sprintf(c, api.MaxCalls)
		o = run(t, s, plenty)
		if o.How != api.WDeep || o.V != (api.Val{}) || entered(o) != api.MaxCalls+1 || o.Events[len(o.Events)-1] != (api.Event{Kind: api.ECall, A: 6, B: 4}) {
			t.Errorf("%s: ends %d with %v, %d were entered, at last %v", s, o.How, o.V, entered(o), o.Events[len(o.Events)-1])
		}
	}
	// calls behind each other, and those that were left by a throw, are not within each other
	o := run(t, "var n = 0; function f() { } while (n < 300) { n = n + 1; f(); }", plenty)
	if o.How != api.WEnd || entered(o) != 301 {
		t.Errorf("ends %d, %d were entered", o.How, entered(o))
	}
	o = run(t, "var n = 0; function g() { throw 1 } function f() { g() } while (n < 300) { n = n + 1; try { f() } catch (e) { } }", plenty)
	if o.How != api.WEnd || entered(o) != 601 {
		t.Errorf("ends %d, %d were entered", o.How, entered(o))
	}
}

// entered is how many functions were.
func entered(o api.Outcome) int {
	n := 0
	for _, e := range o.Events {
		if e.Kind == api.EEnter {
			n++
		}
	}
	return n
}
