package walk_test

import (
	"testing"

	"gumshoe/api"
)

// Each statement is a step, but for blocks; what it does not come to is none.
func TestStatements(t *testing.T) {
	check(t,
		ends{"var a", 1, ""},
		ends{"var a = {}", 2, "alloc 4"},
		ends{"1", 2, ""},
		ends{"{ 1; { 2 } }", 4, ""},
		ends{"if (1) { ({}) }", 4, "alloc 4"},
		ends{"if (0) { ({}) }", 2, ""},
		ends{"if (1) { ({}) } else { ({}) }", 4, "alloc 4"},
		ends{"if (0) { ({}) } else { ({}) }", 4, "alloc 5"},
		ends{"if (0) { ({}) } else if ('') { ({}) } else { ({}) }", 6, "alloc 6"},
		ends{"while (0) { ({}) }", 2, ""},
		ends{"var n = 2; while (n) { n = n - 1; ({}) }", 20, "alloc 4, alloc 4"},
		ends{"try { 1 } catch (e) { 2 }", 3, ""},
		ends{"try { throw 1 } catch (e) { 2 }", 5, "throw -1"},
		ends{"for (var k in 1) { ({}) }", 2, ""},
		ends{"for (var k in {}) { ({}) }", 2, "alloc 4"},
		ends{"for (var k in {a: 1, b: 2}) { ({}) }", 8, "alloc 4, put 4 a, put 4 b, alloc 5, alloc 5"},
	)
}

// A variable without a value stays what it is.
func TestVariables(t *testing.T) {
	keeps(t, "var o = {}; var a = 'x'; var a; o[a] = 0; var a = undefined; o[a] = 0", "x undefined")
	keeps(t, "var o = {}; o[a] = 0; if (0) { var a = 1 } o[a] = 0", "undefined undefined")
	keeps(t, "var o = {}; function f(a) { var a; o[a] = 0; var a = 'y'; o[a] = 0 } f('x')", "x y")
}

// What counts as true goes on; a `break` ends the innermost loop, a `continue` its round, a `return` all of them.
func TestLoops(t *testing.T) {
	const o = "var o = {}; var i = 0; var j = 0; "
	for _, c := range []struct{ text, keys string }{
		{"while (i < 3) { o[i] = 0; i = i + 1; }", "0 1 2"},
		{"while (true) { i = i + 1; if (i === 2) { continue; } o[i] = 0; if (i === 4) { break; } }", "1 3 4"},
		{"while (i < 2) { i = i + 1; j = 0; while (true) { j = j + 1; if (j === 2) { break; } o[i + '' + j] = 0 } o[i] = 0; }", "11 1 21 2"},
		{"while (i < 2) { i = i + 1; j = 0; while (j < 2) { j = j + 1; if (j === 1) { continue; } o[i + '' + j] = 0 } }", "12 22"},
		{"while (i < 3) { i = i + 1; try { if (i === 1) { continue; } if (i === 2) { throw 't' } break; } catch (e) { o[i + e] = 0; continue; } } o[i] = 0", "2t 3"},
		{"for (var k in {a: 1, b: 2, c: 3}) { if (k === 'b') { continue; } o[k] = 0 }", "a b c a c"},
		{"for (var k in {a: 1, b: 2, c: 3}) { if (k === 'b') { break; } o[k] = 0 } o[k] = 0", "a b c a b"},
		{"for (var k in {a: 1, b: 2}) { for (var l in {c: 1, d: 2}) { if (l === 'd') { break; } o[k + l] = 0 } }", "a b c d ac c d bc"},
		{"for (var k in {a: 1}) { k = 'z'; } o[k] = 0", "a z"},
		{"var k = 'as it was'; for (var k in null) { } o[k] = 0", "as it was"},
		{"var k = 'as it was'; for (var k in {}) { } o[k] = 0", "as it was"},
		{"function f() { while (true) { for (var k in {a: 1}) { while (true) { try { return 'r' } catch (e) { } } } } } o[f()] = 0; o[i] = 0", "a r 0"},
		{"{ while (true) { { break; } o[1] = 0 } o[2] = 0 }", "2"},
	} {
		keeps(t, o+c.text, c.keys)
	}
}

// The keys are those that there are as the loop begins, of the object and of what is behind it, each once, as texts.
func TestKeys(t *testing.T) {
	const o = "var o = {}; "
	for _, c := range []struct{ text, keys string }{
		{"var p = {a: 1}; for (var k in p) { p.b = 0; p.a = 0; o[k] = 0; } for (var k in p) { o[k] = 0 }", "a b a a a b"},
		{"function F() { this.x = 1; this.y = 1; } F.prototype.y = 2; F.prototype.z = 3; for (var k in new F()) { o[k] = 0 }", "y z x y x y z"},
		{"function f() { } for (var k in f) { o[k] = 0 }", "prototype call apply"},
		{"for (var k in {1: 0}) { o[k === 1] = 0; o[k === '1'] = 0; }", "1 false true"},
		{"function F() { } F.prototype = o; var x = new F(); for (var k in x) { } o.p = 1; for (var k in x) { o[k + 1] = 0 }", "prototype p p1"},
	} {
		keeps(t, o+c.text, c.keys)
	}
}

// What is thrown is caught by the innermost block around it, of those that are being done; what is thrown there goes on.
func TestCatching(t *testing.T) {
	const o = "var o = {}; "
	for _, c := range []struct{ text, keys string }{
		{"try { o[1] = 0; throw 'x'; o[2] = 0 } catch (e) { o[e] = 0 } o[3] = 0", "1 x 3"},
		{"try { null.p } catch (e) { o[e] = 0 }", "TypeError"},
		{"try { 1() } catch (e) { o[e === 'TypeError'] = 0 }", "true"},
		{"try { try { throw 1 } catch (e) { throw e + 1 } o[0] = 0 } catch (e) { o[e] = 0 }", "2"},
		{"try { try { throw 1 } catch (e) { o[e] = 0 } o[2] = 0 } catch (e) { o[3] = 0 }", "1 2"},
		{"function f() { throw 'f' } try { f() } catch (e) { o[e] = 0 }", "f"},
		{"function f() { try { g() } catch (e) { o['f' + e] = 0; throw 'again' } } function g() { throw 'g' } try { f() } catch (e) { o[e] = 0 }", "fg again"},
		{"function f() { throw f } try { f.call(1) } catch (e) { o[e === f] = 0 }", "true"},
		{"function f() { throw 'n' } try { o.x = new f() } catch (e) { o[e] = 0 } o[o.x] = 0", "n undefined"},
		{"try { o[(function() { throw 'key' })()] = 0 } catch (e) { o[e] = 0 }", "key"},
		{"var e = 1; try { throw 2 } catch (e) { } o[e] = 0", "2"},
		{"var e = 1; try { } catch (e) { } o[e] = 0", "1"},
		{"while (true) { try { throw 1 } catch (e) { break; } } o.z = 0", "z"},
		{"for (var k in {a: 1, b: 2}) { try { throw k } catch (e) { o[e + k] = 0 } }", "a b aa bb"},
		{"try { while (true) { throw 'w' } } catch (e) { o[e] = 0 }", "w"},
		{"var a = 1; try { a = (function() { throw 2 })() } catch (e) { } o[a] = 0", "1"},
		{"try { throw undefined } catch (e) { o[e] = 0 }", "undefined"},
	} {
		keeps(t, o+c.text, c.keys)
	}
	throws(t, num(3),
		ends{"throw 3", 2, "throw -1"},
		ends{"function f() { throw 3 } f()", 6, "alloc 4, alloc 5, call 6 4, enter 1, throw -1"},
		ends{"try { throw 1 } catch (e) { throw e + 2 }", 7, "throw -1, throw -1"},
	)
	throws(t, ref(4), ends{"var o = {}; try { throw o } catch (e) { throw e }", 7, "alloc 4, throw 4, throw 4"})
	throws(t, api.Val{}, ends{"throw undefined", 2, "throw -1"})
	throws(t, ref(2), ends{"throw (function() { }).call", 3, "alloc 4, alloc 5, throw 2"})
	throws(t, api.Val{Kind: api.VBool, N: 1}, ends{"throw true", 2, "throw -1"})
}
