package jread_test

import (
	"math"
	"slices"
	"strings"
	"testing"

	"gumshoe/api"
	"gumshoe/jread"
	"gumshoe/jtree"
)

type parser func(l []api.Tok) (api.Node, int, api.Errno)

// spread gives each token a line of its own, so that a line tells which one it is.
func spread(l []api.Tok) []api.Tok {
	l = slices.Clone(l)
	for i := range l {
		l[i].Line = 3*i + 5
	}
	return l
}

// refused asks for an error where the text has its `@`: at the end it is the last token's.
func refused(t *testing.T, s string, want api.Errno, parse parser) {
	t.Helper()
	ahead, behind, ok := strings.Cut(s, "@")
	if !ok || strings.Contains(behind, "@") {
		t.Fatalf("%q has not one place", s)
	}
	at, l, line := len(lexed(t, ahead)), spread(lexed(t, ahead+behind)), 0
	if len(l) > 0 {
		line = l[min(at, len(l)-1)].Line
	}
	if n, got, e := parse(l); n.Op != 0 || n.L != nil || got != line || e != want {
		t.Errorf("%q: %+v, line %d, error %d, not line %d, error %d", s, n, got, e, line, want)
	}
	if at == len(l) {
		return
	}
	for _, more := range []string{"", "a", "; with", ")}]", "/", "eval", ": :"} { // what stands behind it makes no difference
		m := spread(append(l[:at+1:at+1], lexed(t, more)...))
		if n, got, e := parse(m); n.Op != 0 || n.L != nil || got != line || e != want {
			t.Errorf("%q with %q behind it: %+v, %d, %d", s, more, n, got, e)
		}
	}
}

// refuses asks for the first error of a program, by itself, behind other statements, and within functions.
func refuses(t *testing.T, s string, want api.Errno) {
	t.Helper()
	for _, around := range []string{"", "a = b; c;\n", "if (x) { function f(y) {", "x = function() {}; try {} catch (e) { {} "} {
		refused(t, around+s, want, jread.Parse)
	}
	refused(t, "f(a)(function f(y) {"+s, want, jread.ParseExpr)
}

// refusesExpr asks for the first error of an expression, by itself, within others and within statements.
func refusesExpr(t *testing.T, s string, want api.Errno) {
	t.Helper()
	for _, around := range []string{"", "f(a, b)[c] = {p: ", "-(a ? b : ", "new a(b, "} {
		refused(t, around+s, want, jread.ParseExpr)
	}
	for _, around := range []string{"x = ", "var x = ", "return ", "throw ", "if (", "while (a = ", "for (var k in "} {
		refuses(t, around+s, want)
	}
}

// P4.1: expressions that go on as they may not.
func TestErrParseInExpressions(t *testing.T) {
	for _, s := range []string{
		"@)", "@]", "@,", "@.", "@:", "@?", "@=", "@=== a", "@* a", "@+ a", "@<", "@&& a", "@else", "@catch", "@in", "@var", "@[a]", "@if", "@return",
		"a @b", "a @1", "a @'b'", "a @{", "a @function() {}", "a @new b", "a @!b", "a @this", "a @in b", "a @var b", "a @else",
		"a.@1", "a.@'b'", "a.@(", "a.@;", "a.@", "a[@]", "a[b@, c]", "a[b@;", "a[b@", "a[@", "a[b@: c]", "a(@,", "a(b@;", "a(b,@)", "a(b @c", "a(@", "a(b@", "a(b,@", "a(b@: c)", "a(b@]",
		"(@)", "(a@,", "(a@;", "(a@", "(@", "(a @b", "(a@: b)", "a +@+ b", "a +@= b", "a =@= b", "a * @* b", "a <@< b", "a &&@", "a ||@ || b", "!@", "!@;", "-@)", "a - @)", "!@&& a",
		"a ?@", "a ? @:", "a ? b@", "a ? b@;", "a ? b : @", "a ? b : @;", "a ? b @c", "a ? b@, c", "a ? b\n@c", "a = @;", "a =@",
		"1 @= a", "(a) @= b", "(a.b) @= c", "((a[b])) @= c", "a + b @= c", "a + b.c @= d", "!a @= b", "-a.b @= c", "a() @= b", "a.b() @= c", "new a @= b", "new a.b @= c", "a ? b : c + d @= e", "a ? b + c @= d",
		"a = b + c @= d", "this @= a", "{} @= a", "'a' @= b", "null @= b", "(a = b) @= c", "a = (b) @= c", "a && b @= c", "function() {} @= a", "(function() {}) @= a",
		"new @", "new @;", "new @new a", "new @!a", "new @)", "new a.@(", "new a(b @c", "new a[b@)", "new a().@1", "new a(b,@)", "new a(@", "new a(@;",
		"{@,}", "{a@}", "{a@, b}", "{a: @}", "{a: 1@;", "{a: 1,@,}", "{a: 1 @b: 2}", "{@(", "{@[", "{@-1: a", "{a @b", "{'get' @a", "{'set' @'a'", "{1 @b", "{if @a", "{get@}", "{get@, a", "{get@(", "{set@", "{@", "{a@", "{a:@", "{a: b@", "{a: b,@", "{a@= b", "{a: get @b", "{gets @b", "{a@.b", "{@!a", "{a: b@: c", "{a: 1, @;",
		"function @1", "function @", "function f @g", "function @{", "function(@1", "function(a@ b", "function(a,@)", "function(@,", "function() @a", "function() {@)", "function(@if", "function @if", "function @;", "function(a@.b", "function(@(", "function f@", "function(@", "function(a@", "function() {@", "function() {a@", "function() {a @b", "function(@'a'", "function @'a'", "function eval@.a",
	} {
		refusesExpr(t, s, api.ErrParse)
	}
}

// P4.1: statements that go on as they may not.
func TestErrParseInStatements(t *testing.T) {
	for _, s := range []string{
		"@)", "@]", "@,", "@.", "@:", "@?", "@=", "@=== a", "@else", "@catch (e) {}", "@in", "@[a]", "a@, b", "a @b", "a @)", "a @]", "a @{", "a @function f() {}", "a @var b", "a @if (b) c", "a @return", "(a) @b", "a.b @c", "a() @b",
		"{@", "{a@", "{a @b", "{a;@", "{@)", "{{}@", "{'a'@: b", "{1@: b", "{} @=",
		"var @", "var @;", "var @1", "var @if", "var @'a'", "var @this", "var @(a)", "var @{a}", "var a @b", "var a@, b", "var a =@", "var a = @;", "var a @(b)", "var a@.b", "var a = 1@, b", "var a@: b", "var a @in b", "var a = b @c", "var a +@", "var a@=== b",
		"if @a", "if (@)", "if (a@;", "if (a@", "if (a)@", "if (a) @)", "if (a) @else", "if (a) b @else c", "if (a) b; else @else", "if (a) {} else@", "if (a) b;; @else c", "if (a) {}; @else c", "if (a) return @else b", "if (a) b; else c; @else d", "if (a) @in", "if @{", "if@", "if (a@, b", "if (a) {@", "if (a) ; ; @else",
		"while @a", "while (@)", "while (a)@", "while (a) b @c", "while (a) b; @else c", "while@", "while (a@}", "while (a) @)", "while (a@",
		"for @a", "for@", "for (@", "for (var @1", "for (var@", "for (var a@", "for (var a @of b", "for (var a@;", "for (var a @= 1", "for (var a@, b", "for (var a in@", "for (var a in @)", "for (var a in b@;", "for (var a in b @in c", "for (var a in b)@", "for (var a in b@, c", "for (var a in b) @else", "for @var a in b", "for (var a@.b in c", "for (var @this in c", "for (var @'a' in c",
		"return @else", "return @)", "return a @b", "return @in", "return (@", "return @, a", "return @= a", "return a@, b", "return @var", "return @if", "return @:",
		"throw@", "throw @;", "throw @}", "throw\n@a", "throw\n@(a)", "throw\n@;", "throw\n@}", "throw\n@-a", "throw a @b", "throw @)", "throw /*\n*/ @a", "throw\n@eval", "throw\n@arguments", "throw\n@a: b", "throw\n@{", "throw\n@in",
		"try @a", "try@", "try @;", "try {@", "try {}@", "try {} @a", "try {}@; catch", "try {} @else", "try {} catch @a", "try {} catch @{", "try {} catch (@)", "try {} catch (@1", "try {} catch (@this", "try {} catch (e@,", "try {} catch (e) @a", "try {} catch (e) {@", "try {} catch (e)@", "try {} catch (e) @;", "try @(a)", "try {} catch (e) {} @catch (f) {}", "try {} catch (e@.f", "try {} @eval",
		"break @a", "continue @a", "break @1", "break @(a)", "continue @break", "break @)", "break @eval", "break @: a", "continue @{", "continue @,",
		"function @(", "function @if", "function f@", "function f @;", "function f(@", "function f(a@", "function f() @return", "function f() {@", "function f() {a@", "function f(a@= 1", "function @1() {}", "function f(@'a'", "function @'f'", "function f(a @eval", "function f() {} @= a", "function f() {}@.call()",
		"this@: a", "a.b@: c", "a()@: b", "1@: b", "'a'@: b", "a + b@: c", "!a@: b", "a = b@: c", "x = a@: b", "return a@: b", "break;@: a", "a;@: b", "{}@: b", "x\n+ a@: b", "(a)@: b", "(a)\n@: b", "var a\n@: b", "a ? b : c@: d",
		"a @eval", "var a @eval", "x = {a @eval", "for @eval", "a.b @arguments", "{get @a}", "{set @a: b",
	} {
		refuses(t, s, api.ErrParse)
	}
}

// P4.1: `with`, wherever no program goes on with it.
func TestErrWith(t *testing.T) {
	for _, s := range []string{"@with (a) b", "a @with", "a\n@with", "a;@with", "{@with", "{}@with", "x = @with", "a.b(@with", "a(b @with", "x = {a @with", "x = {a: @with", "function @with", "function f(@with", "function f() @with", "var @with", "var a @with", "if @with", "if (@with", "if (a) @with", "for @with", "for (var @with", "for (var a @with", "break @with", "break\n@with", "return @with", "throw @with", "throw\n@with", "new @with", "a + @with", "a ? @with", "a ? b @with", "try @with", "try {} @with", "try {} catch (@with", "a[@with", "(a @with", "new a(b, @with"} {
		refuses(t, s, api.ErrWith)
	}
	does(t, "a.with = {with: 1}", "(a.with = ({\"with\": 1}));\n")
	refuses(t, "a @'with'", api.ErrParse)
}

// P4.1: words of the whole language that this part of it has not.
func TestErrOtherWords(t *testing.T) {
	for _, w := range strings.Fields("case debugger default delete do finally instanceof switch typeof void") {
		for _, s := range []string{"", "a ", "a\n", "a;", "{", "{}", "x = ", "f(", "f(a ", "x = {a ", "function ", "function f(", "function f() ", "x = function ", "var ", "var a ", "var a = ", "if ", "if (", "if (a ", "if (a) ", "for ", "for (var ", "for (var a ", "for (var a in ", "break ", "return ", "return a ", "throw ", "throw\n", "new ", "a + ", "!", "a ? ", "a ? b ", "try ", "try {} ", "try {} catch ", "try {} catch (", "try {} catch (e) ", "try {} catch (e) {} ", "a[", "a[b ", "(", "(a "} {
			refuses(t, s+"@"+w, api.ErrOther)
		}
		does(t, "a."+w+" = {"+w+": 1}", "(a."+w+" = ({\""+w+"\": 1}));\n")
		refuses(t, "a @'"+w+"'", api.ErrParse)
	}
}

// P4.1: a `/` is told as a regular expression where a thing may begin, else as a sign that this part has not.
func TestSlash(t *testing.T) {
	for _, s := range []string{
		"", "a\n", "a;", ";", "{", "{}", "a()\n", "x = {}\n", "x = a + b\n", "x = ", "(", "f(", "f(a, ", "a[", "x = {p: ", "x = {p: a, q: ", "!", "-", "a + ", "a * ", "a < ", "a === ", "a && ", "a || ", "a ? ", "a ? b : ", "new ", "new a(",
		"return ", "return\n", "return;", "throw ", "throw a\n", "if (", "if (a) ", "if (a) b; else ", "if (a) b\n", "while (", "while (a) ", "for (var k in ", "for (var k in a) ", "function f() {", "function f() {} ", "x = function() {", "x = function() {}\n",
		"try {", "try {} catch (e) {", "try {} catch (e) {} ", "var a = ", "var a\n", "var a = b\n", "break\n", "continue;", "new a\n", "a.b\n",
	} {
		refuses(t, s+"@/", api.ErrRegex)
		refuses(t, s+"@/a/", api.ErrRegex)
	}
	for _, s := range []string{
		"a ", "a() ", "a.", "a.\n", "a.b ", "a[b] ", "a[b ", "a[b\n", "f(a ", "f(a\n", "(a) ", "(a ", "1 ", "'a' ", "this ", "x = {} ", "x = {", "x = {\n", "x = {a ", "x = {a: 1 ", "x = {a: 1, ", "x = {get ", "-a ", "a + b ", "a ? b ", "a ? b\n", "a ? b : c ", "a = b ", "new a ", "new a() ",
		"function ", "function f ", "function f(", "function f(a ", "function f(a, ", "function f() ", "x = function ", "x = function() {} ", "var ", "var a ", "var a = b ", "if ", "if (a ", "if\n", "if (a) b ", "while ", "while (a ", "for ", "for (var ", "for (var a ", "for (var a in b ",
		"try ", "try {} ", "try {} catch ", "try {} catch (", "try {} catch (e ", "try {} catch (e) ", "break ", "continue ", "return a ", "throw\n", "throw a ", "{a ",
	} {
		refuses(t, s+"@/", api.ErrOther)
		refuses(t, s+"@/ a", api.ErrOther)
	}
}

// P4.1: the names `eval` and `arguments`, where they are expressions.
func TestErrEval(t *testing.T) {
	for _, w := range []string{"eval", "arguments"} {
		for _, s := range []string{"@W", "@W = 1", "@W.p", "@W(a)", "@W[0]", "@W: a", "@W\n", "x = @W", "f(@W", "f(a, @W", "a + @W", "!@W", "-@W", "new @W", "(@W", "a\n@W", "{@W", "return @W", "throw @W", "a[@W", "x = {p: @W", "if (@W", "if (a) @W", "for (var k in @W", "var a = @W", "a ? @W", "a ? b : @W", "a || @W", "function f() {@W", "a = @W", "while (a) @W", "return\n@W"} {
			refuses(t, strings.ReplaceAll(s, "W", w), api.ErrEval)
		}
		does(t, "var "+w+"; a."+w+" = '"+w+"'", "var "+w+";\n(a."+w+" = \""+w+"\");\n")
	}
	does(t, "evals = Eval + argument", "(evals = (Eval + argument));\n")
}

// P4.1: a `:` right behind a name that begins a statement.
func TestErrLabel(t *testing.T) {
	for _, s := range []string{"a@: b", "a@:", "a\n@: b", "a /*\n*/ @:", "a@: for (var k in a) b", "if (x) a@: b", "if (x) b; else a@:", "while (x) a@: b", "for (var k in a) b@: c", "{a@: 1}", "a; b@: c", "a\nb@: c", "x = a\nb@: c", "{} a@: b", "function f() {a@:", "x = function() {a@:", "get@: 1", "break\na@: b", "return\na@:", "a@:: b", "try {a@: b", "var a\nb@: c"} {
		refuses(t, s, api.ErrLabel)
	}
	refused(t, "a@: b", api.ErrParse, jread.ParseExpr)
}

// P4.1: keys behind `get` and `set`, in a pair's place.
func TestErrGetter(t *testing.T) {
	for _, s := range []string{"{get @a() {}}", "{set @a(b) {}}", "{get @if", "{get @'a'", "{get @1", "{get @get", "{set @set", "{set @get: 1", "{get @with", "{set @typeof", "{get\n@a", "{get @eval", "{a: 1, get @b", "{get: 1, set @a", "{get @a: 1}", "{a: {get @b"} {
		refusesExpr(t, s, api.ErrGetter)
	}
	does(t, "{get\na}", "{\n  get;\n  a;\n}\n")
}

// P4.1: loops that go through no keys.
func TestErrOtherLoops(t *testing.T) {
	for _, s := range []string{"for (@;;)", "for (@a in b", "for (@i = 0", "for (@with", "for (@)", "for (@eval in a", "for (@'var'", "for (@/", "for (@(", "for (@typeof", "for (@{", "for (\n@1", "for (@this", "for (@in"} {
		refuses(t, s, api.ErrOther)
	}
}

// P4.1: an expression's first error, as if nothing may stand behind it; that of none at all.
func TestParseExprBehind(t *testing.T) {
	for s, want := range map[string]api.Errno{
		"@": api.ErrParse, "a @b": api.ErrParse, "a@;": api.ErrParse, "a@, b": api.ErrParse, "a@)": api.ErrParse, "a@}": api.ErrParse, "a@]": api.ErrParse, "a\n@b": api.ErrParse, "a\n@;": api.ErrParse, "@;": api.ErrParse, "{} @{}": api.ErrParse, "{a@;}": api.ErrParse, "@var a": api.ErrParse, "@return": api.ErrParse,
		"a @with": api.ErrWith, "a\n@with": api.ErrWith, "a @typeof": api.ErrOther, "a @/ b": api.ErrOther, "a\n@/ b": api.ErrOther, "a @eval": api.ErrParse, "a\n@eval": api.ErrParse, "@eval": api.ErrEval, "@/": api.ErrRegex, "function f() {} @a": api.ErrParse, "function() {} @/": api.ErrOther,
	} {
		refused(t, s, want, jread.ParseExpr)
	}
	for _, parse := range []parser{jread.Parse, jread.ParseExpr} {
		if n, line, e := parse(lexed(t, "\na + // b\n\n")); n.Op != 0 || line != 2 || e != api.ErrParse {
			t.Errorf("%+v, %d, %d", n, line, e)
		}
	}
	if n, line, e := jread.ParseExpr(nil); n.Op != 0 || n.L != nil || line != 0 || e != api.ErrParse {
		t.Errorf("%+v, %d, %d", n, line, e)
	}
	for _, l := range [][]api.Tok{nil, {}} {
		if n, line, e := jread.Parse(l); n.Op != api.SBlock || len(n.L) != 0 || n.Line != 0 || line != 0 || e != api.OK {
			t.Errorf("%+v, %d, %d", n, line, e)
		}
	}
}

// tooDeep asks for ErrDeep of what is read but too high, or has too many parts.
func tooDeep(t *testing.T, s string, deep bool, parse parser) {
	t.Helper()
	n, line, e := parse(lexed(t, s))
	if deep && (n.Op != 0 || n.L != nil || line != 0 || e != api.ErrDeep) || !deep && (n.Op == 0 || line != 0 || e != api.OK) {
		t.Errorf("%.40q of %d bytes: %d, line %d, error %d", s, len(s), n.Op, line, e)
	}
}

// P4.1: trees that are too high.
func TestErrDeepHigh(t *testing.T) {
	for _, c := range []struct {
		ahead, behind string
		step, rest    int // how many levels each adds, how many there are within all
	}{
		{"!", "", 1, 1}, {"a = ", "", 1, 1}, {"", " + a", 1, 1}, {"", ".b", 1, 1}, {"", "()", 1, 1}, {"a ? b : ", "", 1, 1}, {"f(", ")", 1, 1}, {"a[", "]", 1, 1}, {"new (", ")", 1, 1},
		{"a * (b + ", ")", 2, 1}, {"{p: ", "}", 2, 1}, {"(function() {}) * (", ")", 1, 2}, {"function() {return ", "}", 3, 1},
	} {
		for _, times := range []int{1, 31, 32, 33, 34, 48, 49, 50, 96, 97, 98, 99, 100, 101, 150, 300} {
			high := c.step*times + c.rest
			s := strings.Repeat(c.ahead, times) + "a" + strings.Repeat(c.behind, times)
			tooDeep(t, s, high > api.MaxHigh, jread.ParseExpr)
			tooDeep(t, "x;("+s+")", high+2 > api.MaxHigh, jread.Parse)
		}
	}
	for times := 90; times < 110; times++ {
		tooDeep(t, strings.Repeat("{", times)+strings.Repeat("}", times), times+1 > api.MaxHigh, jread.Parse)
	}
	for _, times := range []int{1, 48, 49, 50, 51} { // each if, and its block; within, the statement, and the name
		tooDeep(t, strings.Repeat("if (a) ", times)+"b", 2*times+3 > api.MaxHigh, jread.Parse)
	}
	tooDeep(t, strings.Repeat("(", 9000)+"a"+strings.Repeat(")", 9000), false, jread.ParseExpr) // brackets add no level
	tooDeep(t, strings.Repeat("(", 9000)+"a"+strings.Repeat(")", 9000), false, jread.Parse)
	tooDeep(t, strings.Repeat("!", 19999)+"a", true, jread.Parse)
	tooDeep(t, strings.Repeat("{", 10000)+strings.Repeat("}", 10000), true, jread.Parse)
	tooDeep(t, "a"+strings.Repeat(" + a", 9999), true, jread.Parse)
	tooDeep(t, strings.Repeat("a;", 10000), false, jread.Parse)
	tooDeep(t, strings.Repeat(";", 20000), false, jread.Parse)
	refused(t, strings.Repeat("!", 200)+"a @b", api.ErrParse, jread.ParseExpr) // another error is the first one
	refused(t, strings.Repeat("(", 20000)+"@", api.ErrParse, jread.Parse)
	refused(t, strings.Repeat("if (a) ", 4000)+"@", api.ErrParse, jread.Parse)
}

// P4.1: trees with too many parts.
func TestErrDeepParts(t *testing.T) {
	for _, n := range []int{1, 2, api.MaxParts - 1, api.MaxParts, api.MaxParts + 1, 500} {
		names, pairs := strings.Repeat("a, ", n-1)+"a", strings.Repeat("a: b, ", n)
		for s, deep := range map[string]bool{
			"f(" + names + ")": n+1 > api.MaxParts, "new f(" + names + ")": n+1 > api.MaxParts, "function(" + names + ") {}": n > api.MaxParts, "{" + pairs + "}": n > api.MaxParts,
		} {
			tooDeep(t, s, deep, jread.ParseExpr)
			tooDeep(t, "x = "+s, deep, jread.Parse)
			refused(t, s+" @b", api.ErrParse, jread.ParseExpr)
		}
		tooDeep(t, "function f("+names+") {}", n > api.MaxParts, jread.Parse)
	}
}

// oddTokens are such as no text has.
func oddTokens() []api.Tok {
	var l []api.Tok
	for _, kind := range []int{math.MinInt, -1, 0, api.TName, api.TWord, api.TNum, api.TText, api.TSign, 6, math.MaxInt} {
		for _, s := range []string{"", "a", "if", "(", ";", "+", "var", "function", "\x00", "=="} {
			for _, n := range []int64{0, -1, math.MinInt64, math.MaxInt64} {
				l = append(l, api.Tok{Kind: kind, S: s, N: n, Line: int(n), NL: n == -1})
			}
		}
	}
	return l
}

// R1, R2: no list makes it panic, and what it answers is an error alone, or a right tree alone.
func TestAnyTokens(t *testing.T) {
	odd, good := oddTokens(), lexed(t, "( ) { } [ ] a 1 'b' get : , . = ? + - ! ; if else while for var in return throw try catch new function this\na\n(\n}\n;\n/")
	x := uint32(5)
	pick := func(l []api.Tok) api.Tok {
		x = x*1664525 + 1013904223
		return l[int(x>>8)%len(l)]
	}
	check := func(l []api.Tok) {
		t.Helper()
		was := slices.Clone(l)
		p, line, e := jread.Parse(l)
		if e == api.OK && (!jtree.Right(p) || line != 0) || e != api.OK && (p.Op != 0 || p.L != nil) {
			t.Errorf("%+v: %+v, %d, %d", l, p, line, e)
		}
		p, line, e = jread.ParseExpr(l)
		if e == api.OK && (!jtree.RightExpr(p) || line != 0) || e != api.OK && (p.Op != 0 || p.L != nil) {
			t.Errorf("%+v: %+v, %d, %d", l, p, line, e)
		}
		if !slices.Equal(l, was) {
			t.Error("tokens were changed")
		}
	}
	for _, k := range odd {
		check([]api.Tok{k})
	}
	for range 30000 {
		var l []api.Tok
		for range 1 + int(pick(good).Kind)*2 {
			if l = append(l, pick(good)); x>>8%7 == 0 {
				l[len(l)-1] = pick(odd)
			}
		}
		check(l)
	}
}

// R1: nor does a list that nests as no text's tokens can.
func TestEndlessNesting(t *testing.T) {
	for _, s := range []string{"(", "a + (", "a ? ", "!", "{", "if (a) ", "a = ", "x = function() { ", "new (", "a[", "f(b * (", "x = {p: "} {
		piece := lexed(t, s)
		var l []api.Tok
		for len(l) < 200000 {
			l = append(l, piece...)
		}
		for _, parse := range []parser{jread.Parse, jread.ParseExpr} {
			if n, _, e := parse(l); n.Op != 0 || n.L != nil || e == api.OK {
				t.Errorf("%q again and again: %+v, %d", s, n, e)
			}
		}
	}
}
