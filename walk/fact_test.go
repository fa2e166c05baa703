package walk_test

import (
	"strings"
	"testing"

	"gumshoe/api"
)

// The facts of what is there at first.
const firstProps, firstBehind = "prop 1 apply 3, prop 1 call 2", "behind 1 0, behind 2 1, behind 3 1"

// facts holds the facts of a text's run against those told, but those of what is there at first.
func facts(t *testing.T, s string, want string, input ...int64) {
	t.Helper()
	got := knowledge(run(t, s, plenty, input...).Facts)
	for _, known := range []string{firstProps, firstBehind, "enter 0"} {
		if !strings.Contains(got, known) {
			t.Errorf("%s: %s, without %s", s, got, known)
		}
		got = strings.Replace(got, known, "", 1)
	}
	var l []string
	for _, f := range strings.Split(got, ", ") {
		if f != "" {
			l = append(l, f)
		}
	}
	if got = strings.Join(l, ", "); got != want {
		t.Errorf("%s: facts\n%s\nnot\n%s", s, got, want)
	}
}

// P8.1: what is so at the end.
func TestFacts(t *testing.T) {
	for _, c := range []struct{ text, facts string }{
		{"var a = 1", ""},
		{"var a = {}", "var 0 4, behind 4 0"},
		{"var a = {}; a = 1", "behind 4 0"},
		{"var a = {}; a = {}", "var 0 5, behind 4 0, behind 5 0"},
		{"var a = {}; var b = a", "var 0 4, var 1 4, behind 4 0"},
		{"var a = {p: 1, q: {}, r: null}", "var 0 4, prop 4 q 5, behind 4 0, behind 5 0"},
		{"var a = {p: {}}; a.p = 1", "var 0 4, behind 4 0, behind 5 0"},
		{"({'': {}})", "prop 4  5, behind 4 0, behind 5 0"},
		{"var n = 2; while (n) { n = n - 1; ({p: {}}) }", "prop 4 p 5, behind 4 0, behind 5 0"},
		{"function f() { }", "var 0 4, prop 4 prototype 5, behind 4 1, behind 5 0"},
		{"function f() { } f.prototype = f", "var 0 4, prop 4 prototype 4, behind 4 1, behind 5 0"},
		{"function f() { } f.prototype = 0", "var 0 4, behind 4 1, behind 5 0"},
		// each frame has variables and a this, though it was left
		{"function f(a) { } f({}); f(1); f(f)", "var 0 4, var 1000 4, var 1000 7, prop 4 prototype 5, behind 4 1, behind 5 0, behind 7 0, call 6 4, call 8 4, call 9 4, enter 1"},
		{"function f(a) { a = 1 } f({})", "var 0 4, prop 4 prototype 5, behind 4 1, behind 5 0, behind 7 0, call 6 4, enter 1"},
		{"function f() { } f.call({}); f.call(5)", "var 0 4, this 1 7, prop 4 prototype 5, behind 4 1, behind 5 0, behind 7 0, call 6 2, call 6 4, call 8 2, call 8 4, enter 1"},
		{"var g = function f() { }; g()", "var 0 4, var 1000 4, prop 4 prototype 5, behind 4 1, behind 5 0, call 6 4, enter 1"},
		// a closure changes a variable of a frame that was left
		{"function f(a) { return function() { a = {}; } } f(1)()", "var 0 4, var 1000 8, prop 4 prototype 5, prop 6 prototype 7, behind 4 1, behind 5 0, behind 6 1, behind 7 0, behind 8 0, call 9 6, call 10 4, enter 1, enter 2"},
		{"function f(a) { return function() { a = 1 } } f({})()", "var 0 4, prop 4 prototype 5, prop 6 prototype 7, behind 4 1, behind 5 0, behind 6 1, behind 7 0, behind 10 0, call 8 6, call 9 4, enter 1, enter 2"},
		// what a throw left is so, too
		{"function f(a) { throw 1 } try { f({}) } catch (e) { }", "var 0 4, var 1000 7, prop 4 prototype 5, behind 4 1, behind 5 0, behind 7 0, call 6 4, enter 1"},
		{"try { throw {} } catch (e) { }", "var 0 4, behind 4 0"},
		// constructions
		{"function F() { } F.prototype = {}; new F()", "var 0 4, this 1 7, prop 4 prototype 6, behind 4 1, behind 5 0, behind 6 0, behind 7 6, call 7 4, enter 1"},
		{"var c = (function() { }).call", "var 0 2, prop 4 prototype 5, behind 4 1, behind 5 0"},
		{"({}).q", "behind 4 0"},
		// what was called, but not entered
		{"function f() { } f.apply.call(f)", "var 0 4, prop 4 prototype 5, behind 4 1, behind 5 0, call 6 2, call 6 3, call 6 4, enter 1"},
	} {
		facts(t, c.text, c.facts)
	}
}

// FThrown is of what ended the run alone.
func TestThrown(t *testing.T) {
	for _, c := range []struct{ text, facts string }{
		{"throw {}", "behind 4 0, thrown 4"},
		{"throw 1", ""},
		{"try { throw {} } catch (e) { throw {} }", "var 0 4, behind 4 0, behind 5 0, thrown 5"},
		{"try { throw {} } catch (e) { throw 1 }", "var 0 4, behind 4 0"},
		{"function f(a) { throw this } f.call({})", "var 0 4, this 1 7, prop 4 prototype 5, behind 4 1, behind 5 0, behind 7 0, call 6 2, call 6 4, enter 1, thrown 7"},
	} {
		facts(t, c.text, c.facts)
	}
}

// Facts are of any end: of what was done up to there.
func TestFactsOfEachEnd(t *testing.T) {
	const s = "function f(a) { var b = {}; f(b); } f(1)"
	const deep = "var 0 4, var 1000 6, var 1001 6, prop 1 apply 3, prop 1 call 2, prop 4 prototype 5, behind 1 0, behind 2 1, behind 3 1, behind 4 1, behind 5 0, behind 6 0, call 7 4, call 8 4, enter 0, enter 1"
	if o := run(t, s, plenty); o.How != api.WDeep || knowledge(o.Facts) != deep {
		t.Errorf("%s: ends %d, %s", s, o.How, knowledge(o.Facts))
	}
	const fuel = "var 0 4, var 1001 6, prop 1 apply 3, prop 1 call 2, prop 4 prototype 5, behind 1 0, behind 2 1, behind 3 1, behind 4 1, behind 5 0, behind 6 0, call 8 4, enter 0, enter 1"
	if o := run(t, s, 7); o.How != api.WFuel || knowledge(o.Facts) != fuel {
		t.Errorf("%s: ends %d, %s", s, o.How, knowledge(o.Facts))
	}
}

// Facts are sorted by Kind, A, S, B; keys by their bytes.
func TestOrder(t *testing.T) {
	facts(t, "function f(a) { this.b = a; this['B'] = a; this[''] = a; } var x = {p: f}; f.call(x, x); f.call(f, {}); f.call({}, f)",
		"var 0 4, var 1 6, var 1000 4, var 1000 6, var 1000 9, this 1 4, this 1 6, this 1 11, "+
			"prop 4  9, prop 4 B 9, prop 4 b 9, prop 4 prototype 5, prop 6  6, prop 6 B 6, prop 6 b 6, prop 6 p 4, prop 11  4, prop 11 B 4, prop 11 b 4, "+
			"behind 4 1, behind 5 0, behind 6 0, behind 9 0, behind 11 0, call 7 2, call 7 4, call 8 2, call 8 4, call 10 2, call 10 4, enter 1")
}
