package walk_test

import (
	"testing"

	"gumshoe/api"
	"gumshoe/walk"
)

// Each expression's tree is a step, and its parts are, from left to right; what it is shows in the key that is put.
func TestValues(t *testing.T) {
	for _, c := range []struct {
		x     string
		steps int
		key   string
	}{
		{"0", 1, "0"},
		{"999999999999999", 1, "999999999999999"},
		{"'a'", 1, "a"},
		{"''", 1, ""},
		{"true", 1, "true"},
		{"false", 1, "false"},
		{"null", 1, "null"},
		{"undefined", 1, "undefined"},
		{"this", 1, "undefined"},
		{"v", 1, "undefined"},
		{"o", 1, "[object]"},
		{"o.p", 2, "undefined"},
		{"o['p']", 3, "undefined"},
		{"1 + 'a'", 3, "1a"},
		{"true + 2", 3, "3"},
		{"7 - 9", 3, "-2"},
		{"3 * '4'", 3, "12"},
		{"1 < 2", 3, "true"},
		{"2 <= 1", 3, "false"},
		{"1 === '1'", 3, "false"},
		{"1 !== '1'", 3, "true"},
		{"o === o", 3, "true"},
		{"!o", 2, "false"},
		{"!''", 2, "true"},
		{"-'5'", 2, "-5"},
		{"-o", 2, "0"},
		{"0 && 'b'", 2, "0"},
		{"1 && 'b'", 3, "b"},
		{"0 || 'b'", 3, "b"},
		{"1 || 'b'", 2, "1"},
		{"o && 'b'", 3, "b"},
		{"undefined || null", 3, "null"},
		{"true ? 'y' : v.p", 3, "y"},
		{"'' ? v.p : 'n'", 3, "n"},
		{"v = 'z'", 2, "z"},
		{"(v = 'z') + v", 4, "zz"},
		{"v + (v = 'z')", 4, "undefinedz"},
	} {
		s := "var v; var o = {}; o[" + c.x + "] = 0"
		check(t, ends{s, 7 + c.steps, "alloc 4, put 4 " + c.key})
	}
}

// The input is read from its first number on, and behind the last one it is 0.
func TestInput(t *testing.T) {
	const s = "var o = {}; o[input] = 0; o[input + '/' + input] = 0; o[input] = 0"
	behaves(t, run(t, s, plenty, -3, 1<<62), s, api.WEnd, api.Val{}, 21, "enter 0, alloc 4, put 4 -3, put 4 4611686018427387904/0, put 4 0")
	const c = "var o = {}; var f = true && input || input; o[f] = 0; o[input] = 0"
	behaves(t, run(t, c, plenty, 0, 8, 9), c, api.WEnd, api.Val{}, 18, "enter 0, alloc 4, put 4 8, put 4 9")
}

// An object comes to be ahead of its pairs; each is put as soon as its value is there.
func TestObjects(t *testing.T) {
	check(t,
		ends{"({})", 2, "alloc 4"},
		ends{"({a: 1, 'b c': {}, 3: {d: null}, a: 2})", 7, "alloc 4, put 4 a, alloc 5, put 4 b c, alloc 6, put 6 d, put 4 3, put 4 a"},
		ends{"var o = {a: 1, b: 2, a: 3}; for (var k in o) { o[k + o[k]] = 0 }", 25, "alloc 4, put 4 a, put 4 b, put 4 a, put 4 a3, put 4 b2"},
	)
	throws(t, text("TypeError"), ends{"({a: 1, b: null.c, d: {}})", 5, "alloc 4, put 4 a, throw -1"})
}

// A key is looked for in the object, then behind it.
func TestMembers(t *testing.T) {
	check(t,
		ends{"var o = {p: 'q', q: 'r'}; o[o.p + o[o.p] + o.r] = 0", 18, "alloc 4, put 4 p, put 4 q, put 4 qrundefined"},
		ends{"var o = {}; o[null] = 'n'; o[o] = 't'; o[o['null'] + o['[object]']] = 0", 23, "alloc 4, put 4 null, put 4 [object], put 4 nt"},
		ends{"function F() { } F.prototype.p = 'b'; var x = new F(); x[x.p] = 0; x.p = 'o'; x[x.p] = 0", 25,
			"alloc 4, alloc 5, put 5 p, alloc 6, call 6 4, enter 1, put 6 b, put 6 p, put 6 o"},
		ends{"var o = {}; o.if = 1; o['if'] = 2", 11, "alloc 4, put 4 if, put 4 if"},
	)
}

// What is set is a variable, or a key's value; an XSet is its value, and its first part no step.
func TestSets(t *testing.T) {
	check(t,
		ends{"var a; a = 1", 4, ""},
		ends{"var a; var b; a = b = 'k'; var o = {}; o[a + b] = 0", 15, "alloc 4, put 4 kk"},
		ends{"var o = {}; o.p = 1", 6, "alloc 4, put 4 p"},
		ends{"var o = {}; o['p'] = 1", 7, "alloc 4, put 4 p"},
		ends{"var o = {}; o.a = o.b = 'v'; o[o.a + o.b] = 0", 17, "alloc 4, put 4 b, put 4 a, put 4 vv"},
		ends{"var o = {}; o[o.k = 'key'] = {}", 9, "alloc 4, put 4 k, alloc 5, put 4 key"},
		ends{"var o = {}; var p = {}; o.a = (o = p); o.b = 1", 13, "alloc 4, alloc 5, put 4 a, put 5 b"},
	)
}

// Where an object is asked for, and there is none, TypeError is thrown: as the value is got or put, behind its parts.
func TestNoObject(t *testing.T) {
	const none = "throw -1"
	throws(t, text("TypeError"),
		ends{"undefined.p", 3, none},
		ends{"'abc'.length", 3, none},
		ends{"(1).p", 3, none},
		ends{"true[{}]", 4, "alloc 4, " + none},
		ends{"null.p = {}", 4, "alloc 4, " + none},
		ends{"null[{}] = {}", 5, "alloc 4, alloc 5, " + none},
		ends{"null.p.q = {}", 4, none},
		ends{"null.p({})", 4, none},
		ends{"null[{}]({})", 5, "alloc 5, " + none},
		ends{"null({})", 4, "alloc 5, " + none},
		ends{"({})({})", 4, "alloc 5, alloc 6, " + none},
		ends{"({}.p)()", 4, "alloc 5, " + none},
		ends{"var o = {}; o(o = {})", 7, "alloc 4, alloc 6, " + none},
		ends{"new null({})", 4, "alloc 5, " + none},
		ends{"var o = {}; new o({})", 6, "alloc 4, alloc 6, " + none},
		ends{"var f = function() { }; new f.call({})", 7, "alloc 4, alloc 5, alloc 7, " + none},
		ends{"var f = function() { }; new f.apply(f)", 7, "alloc 4, alloc 5, " + none},
	)
}

// A text of a tree may be longer than what signs make, and is a value.
func TestLongText(t *testing.T) {
	long := string(make([]byte, api.MaxBytes+1))
	x := api.Node{Op: api.XStr, S: long}
	for _, c := range []struct {
		x   api.Node
		how int
		v   api.Val
	}{
		{x, api.WThrow, text(long)},
		{api.Node{Op: api.XBin, S: "+", L: []api.Node{x, {Op: api.XStr}}}, api.WFull, api.Val{}},
		{api.Node{Op: api.XBin, S: "+", L: []api.Node{{Op: api.XStr, S: long[1:]}, {Op: api.XStr}}}, api.WThrow, text(long[1:])},
		{api.Node{Op: api.XBin, S: "+", L: []api.Node{{Op: api.XStr, S: long[1:]}, {Op: api.XNum}}}, api.WFull, api.Val{}},
	} {
		p := api.Node{Op: api.SBlock, L: []api.Node{{Op: api.SThrow, L: []api.Node{c.x}}}}
		o, _, e := walk.Run(p, nil, plenty)
		if e != api.OK || o.How != c.how || o.V != c.v {
			t.Errorf("ends %d, with %d bytes", o.How, len(o.V.S))
		}
	}
}
