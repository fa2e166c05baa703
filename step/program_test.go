package step_test

import (
	"fmt"
	"math/rand/v2"
	"slices"
	"strings"
	"testing"

	"gumshoe/api"
	"gumshoe/jtree"
	"gumshoe/lower"
	"gumshoe/samples"
	"gumshoe/step"
	"gumshoe/walk"
)

func generator(kind uint64, seed uint64) *rand.Rand { return rand.New(rand.NewPCG(kind, seed)) }

// enough are steps with which a code does what its program does with so many.
func enough(steps int) int { return 2000 + 20*steps }

// alike holds a code's run against the program's: the same end and facts, unless the program had no steps left, and the same events, as far as they go.
func alike(t *testing.T, p api.Node, input []int64, fuel int) api.Outcome {
	t.Helper()
	want, _, e := walk.Run(p, input, fuel)
	if e != api.OK {
		t.Fatalf("%s: %d", samples.Shown(p), e)
	}
	got, line, e := step.Program(p, input, enough(want.Steps))
	if line != 0 || e != api.OK {
		t.Fatalf("%s: %d at %d", samples.Shown(p), e, line)
	}
	begun := got.Events
	if want.How == api.WFuel {
		begun = begun[:min(len(begun), len(want.Events))]
	} else if got.How != want.How || got.V != want.V || !slices.Equal(got.Facts, want.Facts) {
		t.Fatalf("%s: the code ends %d with %v, not %d with %v, with the facts\n%.2000v\nnot\n%.2000v", samples.Shown(p), got.How, got.V, want.How, want.V, got.Facts, want.Facts)
	}
	if !slices.Equal(begun, want.Events) {
		t.Fatalf("%s: of the code happens\n%.2000v\nnot\n%.2000v", samples.Shown(p), begun, want.Events)
	}
	return want
}

// P11.2: what comes of programs, told without their run: those of the document's examples among them.
func TestPrograms(t *testing.T) {
	for s, want := range map[string]api.Val{
		"throw 1 + 'a'":           text("1a"),
		"null.p":                  text("TypeError"),
		"throw input + input * 2": num(7 - 16),
		"var n = 0; for (var k in {a: 1, b: 2}) n = n + k; throw n":                                        text("0ab"),
		"function f(x, y) { return x + y } throw f.call(null, 1, 2) * f.apply(1, {length: 2, 0: 3, 1: 4})": num(21),
		"function f(n) { if (n < 1) throw 'x'; f(n - 1) } try { f(3) } catch (e) { throw e + 1 }":          text("x1"),
		"throw new (function () { this.a = 5 })().a":                                                       num(5),
		"throw g; function g() { } var g":                                                                  ref(4),
	} {
		o, line, e := step.Program(samples.Read(s), []int64{7, -8}, plenty)
		if line != 0 || e != api.OK || o.How != api.WThrow || o.V != want {
			t.Errorf("%s: %d at %d, ends %d with %v", s, e, line, o.How, o.V)
		}
	}
	o, _, _ := step.Program(samples.Read("function F() { this.p = {} } var x = new F()"), nil, plenty)
	behaves(t, o, api.WEnd, undef, o.Steps, alloc(4), alloc(5), alloc(7), called(7, 4), entered(1), alloc(6), stored(7, "p"))
	facts(t, o, []api.Fact{
		{Kind: api.FVar, B: 4}, {Kind: api.FVar, A: 1, B: 7}, {Kind: api.FThis, A: 1, B: 7}, {Kind: api.FProp, A: 4, S: "prototype", B: 5}, {Kind: api.FProp, A: 7, S: "p", B: 6},
		{Kind: api.FProto, A: 4, B: 1}, {Kind: api.FProto, A: 5}, {Kind: api.FProto, A: 6}, {Kind: api.FProto, A: 7, B: 5}, {Kind: api.FCall, A: 7, B: 4}, {Kind: api.FEnter, A: 1},
	}...)
	o, _, _ = step.Program(samples.Read("function f() { } f.call(null, 1, 2)"), nil, plenty)
	behaves(t, o, api.WEnd, undef, o.Steps, alloc(4), alloc(5), called(6, 2), called(6, 4), entered(1))
}

// P11.2: a program's run is that of its functions and its code.
func TestProgramsRun(t *testing.T) {
	for seed := range uint64(300) {
		r := generator(17, seed)
		p, fuel := samples.Program(r.IntN), r.IntN(2000)
		funs, l, _, _ := lower.Lower(p)
		want, e := step.Run(funs, l, []int64{3}, fuel)
		o, line, other := step.Program(p, []int64{3}, fuel)
		if e != api.OK || other != api.OK || line != 0 || !same(o, want) {
			t.Fatalf("%s: %d and %d at %d, ends %d behind %d steps, and %d behind %d", samples.Shown(p), e, other, line, want.How, want.Steps, o.How, o.Steps)
		}
	}
}

// R1: what is no right program has an error, and no call panics.
func TestWrongTrees(t *testing.T) {
	for seed := range uint64(2000) {
		p := samples.Changed(generator(18, seed).IntN)
		if o, line, e := step.Program(p, nil, 300); !jtree.Right(p) {
			nothing(t, samples.Shown(p), o)
			if line != 0 || e != api.ErrTree {
				t.Fatalf("seed %d: %d at %d", seed, e, line)
			}
		}
	}
}

// P11.3, P10.1: what a code does is what its program does, kind by kind; what is said is told by keys that are put.
func TestLikeTheProgram(t *testing.T) {
	const o = "var o = {}; function say(s) { o[s] = 0; return s } function no() { throw 'no' } "
	for _, s := range []string{
		"say(1); say('a\\n'); say(true); say(false); say(null); say(undefined); say(this); say(input); say(input); say(input)",
		"say(0); say(999999999999999); say(''); say(-1); say(--1); say(!1); say(!!0); say(-'x')",
		"say(say(1) + say(2)); say(say('a') + say('b') + say('c')); say(say(5) - say(3) * say(4)); say(1 < 2); say(2 <= 1); say(1 === '1'); say(say(0) !== say(1))",
		"var a = 1; say(a + (a = 2) + a); say((a = a + a) * a); say(a = say(7)); say(a)",
		"say(say(0) && say(1)); say(say(1) && say(2)); say(say(0) || say(3)); say(say(4) || say(5)); say(say(0) ? say(6) : say(7)); say(say(1) ? say(8) : say(9)); say(0 && no() || 1 && (2 || no()))",
		"var x = {a: say(1), b: {c: say(2)}, a: say(3)}; say(x.a); say(x.b.c); say(x.none); say(x['a']); x.p = x.b.q = say(4); say(x.p + x.b.q); x[say('k')] = say(5); say(x[say('k')])",
		"var x = {}; x[x] = 1; say(x['[object]']); x[1] = say(2); say(x['1']); say(({a: 3}).a); say(({b: 4})['b'])",
		"if (say(1)) { say(2) } if (say(0)) { say(3) } if (0) { say(4) } else { say(5) } if (1) { say(6) } else { say(7) } if (0) { } else if (1) { say(8) } else { say(9) }",
		"var n = 5; while (say(n)) { n = n - 1; if (n === 3) { continue } if (n === 1) { break } say('in' + n) } say('out' + n)",
		"var n = 3; while (n) { n = n - 1; var m = 3; while (m) { m = m - 1; if (m === 1) { continue } if (n === 1) { break } say(n + '/' + m) } if (n === 0) { continue } say(n) }",
		"for (var k in {a: 1, b: 2, c: 3}) { if (k === 'b') { continue } say(k) } say(k); for (var k in {a: 1, b: 2}) { say(k); break } for (var k in null) { say(k) } for (var k in 'text') { say(k) } say(k)",
		"var x = {a: 1, b: 2}; for (var k in x) { x[k + k] = 1; for (var l in x) { say(k + '/' + l); l = 'n' } k = 'n' } for (var k in x) { say(k) }",
		"var x = {a: 1, b: 2}; var n = 2; while (n) { n = n - 1; for (var k in x) { say(n + k); if (n) { break } } for (var k in x) { for (var k in x) { say(k) } say(k) } }",
		"function F() { this.own = 1 } F.prototype.up = 2; for (var k in new F()) { say(k) } for (var k in say) { say(k) }",
		"function f() { return 1 } function g() { return } function h() { 1 } say(f()); say(g()); say(h()); function i() { while (1) { for (var k in {a: 1}) { try { return say(k) } catch (e) { } } } } say(i()); say(i())",
		"var x = {f: function() { return this === x }}; say(x.f()); say(x['f']()); say((x.f)()); var f = x.f; say(f()); say((true && x.f)()); say(x[say('f')](say(1), say(2)))",
		"var x = {f: say}; x.f(x.f = no); x[x.k = 'f'] = say; x.f((x = {f: no}) + ''); say(x.f === no)",
		"function f(a, b, c) { say(a); say(b); say(c) } f(); f(1); f(1, 2, 3, 4); f.call(o, 5, 6); f.apply(o, {0: 7, 1: 8, length: 2}); f.call.call(f, 9, 1)",
		"function F(a) { this.a = say(a); return a } var x = new F(1); say(x.a); var y = new F(x); say(x === y); say((new F(say(2), say(3))).a); say(new F('t').a); F.prototype = null; new F({})",
		"var f = function g(n) { return n ? n * g(n - 1) : 1 }; say(f(5)); var h = function i(i) { return i }; say(h(1)); var j = function k() { var k; return k === j }; say(j()); (function l() { l = 1; say(l) })()",
		"say(f(1)); function f(a) { return g(a); function g(b) { return a + b } } function f(a) { return g(a) + 'x'; function g(b) { return a + b + h(); } while (0) { function h() { return 'h' } } }",
		"function c() { var n = 0; return {up: function() { n = n + 1; return n }, f: function() { return function() { return n } }} } var a = c(); var b = c(); say(a.up()); say(a.up() + a.up()); say(b.up()); say(a.f()()); say(b.f()())",
		"try { say(1); throw say(2); say(3) } catch (e) { say(e + 'caught') } say(4); try { say(5) } catch (e) { say(6) } say(e)",
		"try { try { throw 1 } catch (e) { say(e); throw 2 } } catch (e) { say(e) } try { try { no() } catch (e) { e() } } catch (f) { say(e); say(f) }",
		"try { null.p } catch (e) { say(e) } try { (1)() } catch (e) { say(e) } try { new say.call() } catch (e) { say(e) } try { undefined.p = say(1) } catch (e) { say(e) } try { null[say(2)] = say(3) } catch (e) { say(e) } try { (1)[say(4)](say(5)) } catch (e) { say(e) } try { o.none(say(6)) } catch (e) { say(e) } try { new (say('x'))(say(7)) } catch (e) { say(e) } try { null.f(say(8)) } catch (e) { say(e) }",
		"var x = 'was'; try { x = no() } catch (e) { say(x) } try { say(say(1) + no()) } catch (e) { say(e) } try { o[say('k')] = no() } catch (e) { say(e) } try { say({a: say(3), b: no()}) } catch (e) { say(e) } try { while (no()) { } } catch (e) { say(e) } try { for (var k in no()) { } } catch (e) { say(e) }",
		"function f() { try { return say(1) } catch (e) { say(2) } } f(); try { f(); no() } catch (e) { say(e) } function g() { try { try { return no() } catch (e) { return say(3) } } catch (e) { say(4) } } say(g()); try { throw g() } catch (e) { say(e) }",
		"throw {}", "throw say", "no()", "say(1); null.p", "function f() { throw this } new f()", "try { throw 1 } catch (e) { throw {p: e} }", "o()", "(function() { try { no() } catch (e) { null() } })()",
		"function f(n) { say(n); f(n + 1) } f(0)", "function f(n) { try { f(n + 1) } catch (e) { say(e) } } f(0)",
		"var s = 'a'; while (1) { s = s + s }", "var s = 'a'; try { while (1) { s = s + s } } catch (e) { say(1) }", "var x = {}; while (1) { x = {x: x} }", "while (1) { say(function() { }) }", "function F() { } while (1) { new F() }",
		"while (1) { }", "while (1) { try { no() } catch (e) { } }",
	} {
		for n := range 3 {
			alike(t, samples.Read(o+s), []int64{5, -7}[:n], 30000)
		}
	}
}

// P11.3, P10.1: what leaves a try's first block by break, continue or return leaves its handler behind: what is thrown then goes to those around, which are still there.
func TestLeavingTries(t *testing.T) {
	const o = "var o = {}; function say(s) { o[s] = 0 } "
	for _, leave := range []string{"break", "continue", "return 1", "throw 1", "null.p", "say('goes')", "if (n) { continue } else { break }"} {
		for _, within := range []string{
			"try { L } catch (a) { say('a' + a) }",
			"try { try { L } catch (a) { say('a' + a) } } catch (b) { say('b' + b) }",
			"try { throw 'x' } catch (a) { L }",
			"try { try { throw 'x' } catch (a) { L } } catch (b) { say('b' + b) }",
			"try { try { throw 'x' } catch (a) { try { L } catch (c) { say('c' + c) } } } catch (b) { say('b' + b) } try { throw 'y' } catch (d) { say('d') }",
			"try { for (var k in {p: 1, q: 1}) { say(k); try { L } catch (a) { say('a' + a) } } L } catch (b) { say('b' + b); L }",
			"try { while (say(m) || m) { m = m - 1; try { try { L } catch (a) { say('a' + a) } } catch (c) { say('c') } } } catch (b) { say('b' + b) }",
			"try { (function() { while (1) { L; return 2 } })() } catch (a) { say('a' + a) } L",
		} {
			for _, loop := range []string{"while (n) { n = n - 1; say(n); B } ", "for (var k in {x: 1, y: 1, z: 1}) { n = n - 1; say(k); B } "} {
				s := strings.Replace(loop, "B", strings.ReplaceAll(within, "L", leave), 1)
				s = o + "function f() { var n = 3; var m = 2; try { " + s + " say('behind'); throw 'own' } catch (z) { say('z' + z) } throw 'last' } try { say(f()) } catch (y) { say('y' + y) } f()"
				alike(t, samples.Read(s), nil, 30000)
			}
		}
	}
}

// P11.3, P10.1: programs at random, with inputs and steps at random.
func TestRandomRuns(t *testing.T) {
	var ended [5]int
	kinds := map[int]int{}
	for seed := range uint64(3000) {
		r := generator(12, seed)
		p := samples.Program(r.IntN)
		o := alike(t, p, []int64{r.Int64N(5), r.Int64N(5) - 2, r.Int64()}[:r.IntN(4)], []int{r.IntN(100), 500, 3000}[r.IntN(3)])
		ended[o.How]++
		for _, e := range o.Events {
			kinds[e.Kind]++
		}
	}
	if ended[api.WEnd] < 200 || ended[api.WFuel] < 200 || ended[api.WThrow] < 40 || ended[api.WDeep] < 1 || ended[api.WFull] < 1 {
		t.Error(fmt.Sprint(ended))
	}
	for kind := api.EAlloc; kind <= api.EEnter; kind++ {
		if kinds[kind] < 1500 {
			t.Errorf("%d events of the kind %d", kinds[kind], kind)
		}
	}
}
