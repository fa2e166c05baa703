package alias_test

import (
	"fmt"
	"slices"
	"strings"
	"testing"

	"gumshoe/alias"
	"gumshoe/api"
	"gumshoe/samples"
)

// short is the beginning of what lists have.
func short(l any) string {
	text := fmt.Sprintf("%+v", l)
	return text[:min(len(text), 2000)]
}

// points asks what a path may be.
func (k known) points(t *testing.T, p api.Path, want []int) {
	t.Helper()
	got, e := alias.Points(k.funs, k.s, k.l, p)
	if e != api.OK || !slices.Equal(got, want) {
		t.Fatalf("%v by %s: %s, %d, not %s", p, short(k.l), short(got), e, short(want))
	}
}

// may asks whether two paths may be one, in both orders.
func (k known) may(t *testing.T, p, q api.Path, want bool) {
	t.Helper()
	for range 2 {
		if got, e := alias.May(k.funs, k.s, k.l, p, q); e != api.OK || got != want {
			t.Fatalf("%v, %v by %s: %v, %d, not %v", p, q, short(k.l), got, e, want)
		}
		p, q = q, p
	}
}

// loads asks what marks have at a key.
func loads(t *testing.T, l []api.Fact, of []int, key string, want []int) {
	t.Helper()
	if got := alias.Load(l, of, key); !slices.Equal(got, want) {
		t.Fatalf("%q of %s by %s: %s, not %s", key, short(of), short(l), short(got), short(want))
	}
}

// P16.2: the chapter's example, and paths of other programs.
func TestPoints(t *testing.T) {
	for text, paths := range map[string]map[string]string{
		"var a = {p: {}}":                 {"0": "4", "0 p": "5", "0 q": "", "0 p p": "", "0 q p": ""},
		"var a; var b = null; var c = {}": {"0": "", "0 p": "", "1": "", "2": "4"},
		"var a = {}; a = {}; var b = a":   {"0": "4 5", "1": "4 5"},
		"var a = {}; a.p = a; a.q = {}":   {"0": "4", "0 p": "4", "0 p p": "4", "0 p q": "5", "0 p p p p p q": "5", "0 q p": ""},
		// f is of the mark 4, what it has at prototype of 5
		"function f() { }": {"0": "4", "0 prototype": "5", "0 call": "2", "0 apply": "3", "0 call apply call": "2", "0 call prototype": "", "0 prototype call": ""},
		// all keys, those that it may have behind it too
		"var a = {p: {}}; a[input] = {}": {"0 p": "5 6", "0 q": "6", "0 ": "4", "0 q p": ""},
		// F is of 4, its first prototype of 5, {} in it of 6, the other one of 7, its q of 8, x of 9
		"function F() { this.p = {} } F.prototype = {q: {}}; var x = new F()": {"1": "9", "1 p": "6", "1 q": "8", "0 prototype": "5 7", "0 prototype q": "8", "1 prototype": "", "1 q p": ""},
		// variables of functions: f's parameter is 1000, its c 1001
		"var a = {p: {}}; function f(b) { var c = b.p; } f(a)": {"1000": "4", "1000 p": "5", "1001": "5", "1": "6", "1001 p": ""},
		// no call enters f
		"var a = {p: {}}; function f(b) { var c = {}; a.p = c; }": {"0 p": "5", "1000": "", "1001": "", "1001 p": ""},
	} {
		k := solved(t, samples.Read(text))
		for of, want := range paths {
			k.points(t, path(of), marks(want))
		}
	}
}

// P16.2: keys are any texts, the empty one too.
func TestKeys(t *testing.T) {
	k := solved(t, samples.Read("var a = {'': {}, 'a b': {}, '0': {}, '\\xff': {}}"))
	for key, want := range map[string]string{"": "5", "a b": "6", "0": "7", "\xff": "8", " ": "", "\xef\xbf\xbd": ""} {
		k.points(t, api.Path{Keys: []string{key}}, marks(want))
	}
}

// P16.2: two paths may be one, if both may be one mark.
func TestMay(t *testing.T) {
	k := solved(t, samples.Read("var a = {p: {}}; var b = {q: a.p}; var c = a; c = b; var d"))
	for text, want := range map[string]bool{
		"0, 0": true, "0, 1": false, "0, 2": true, "1, 2": true, "0 p, 1 q": true, "0 p, 2 p": true, "0 p, 2 q": true, "0, 0 p": false, "0 p, 1": false,
		"3, 3": false, "3, 0": false, "0 q, 0 q": false, "0 q, 1 p": false, "0 p p, 2": false,
	} {
		p, q, _ := strings.Cut(text, ", ")
		k.may(t, path(p), path(q), want)
	}
}

// P16.2: one mark that both may be is enough, wherever it stands among the others.
func TestMayOfMany(t *testing.T) {
	k := solved(t, samples.Read("var a; var b"))
	set, other := k.s.Funs[0].This-2, k.s.Funs[0].This-1
	in := func(set int, l ...int) {
		for _, mark := range l {
			k.l = append(k.l, api.Fact{Kind: api.FIn, A: set, B: mark})
		}
	}
	in(set, 9, 5, 7, 20)
	in(other, 8, 30, 6, 1)
	k.may(t, path("0"), path("1"), false)
	for _, both := range []int{20, 9, 7, 5} {
		was := k.l
		in(other, both)
		k.may(t, path("0"), path("1"), true)
		k.l = was
	}
	k.may(t, path("0"), path("1"), false)
}

// P16.1: which facts say what marks have at a key.
func TestLoad(t *testing.T) {
	l := samples.Facts("prop 4 p 9; prop 4 p 8; prop 4 q 7; any 5 6; prop 5 p 9; prop 6 p 1; behind 7 4; behind 8 5; behind 8 7; behind 9 9; behind 10 11; behind 11 10; prop 10 p 12; prop 11 p 11; any 11 0; call 4 3; in 4 3; enter 4; var 4 3; this 4 3; thrown 4 3")
	for text, want := range map[string]string{
		"p":           "",
		"p 4":         "8 9",
		"q 4":         "7",
		"o 4":         "",
		"p 5":         "6 9",
		"o 5":         "6",
		"p 7":         "8 9", // of what stands behind it
		"q 7":         "7",
		"p 8":         "6 8 9",
		"q 8":         "6 7",
		"p 9":         "", // which stands behind itself
		"p 10":        "0 11 12",
		"p 11":        "0 11 12", // one behind the other, and it behind that one
		"q 10":        "0",
		"p 6 4 5 4 6": "1 6 8 9",
		"q 8 10":      "0 6 7",
		"p 3":         "",
		"p 0":         "",
	} {
		key, of, _ := strings.Cut(text, " ")
		loads(t, l, marks(of), key, marks(want))
		slices.Reverse(l)
		loads(t, l, marks(of), key, marks(want))
	}
	loads(t, nil, []int{4}, "p", nil)
	loads(t, l[:1], []int{}, "p", nil)
}

// P16.1: facts of other kinds say nothing of keys.
func TestKinds(t *testing.T) {
	for kind := -3; kind < 20; kind++ {
		var atP, atO []int
		switch kind {
		case api.FProp:
			atP = []int{3}
		case api.FAny:
			atP, atO = []int{3}, []int{3}
		case api.FProto:
			atP, atO = []int{6}, []int{7}
		}
		l := append(samples.Facts("prop 3 p 6; any 9 3; prop 3 o 7"), api.Fact{Kind: kind, A: 4, S: "p", B: 3})
		loads(t, l, []int{4}, "p", atP)
		loads(t, l, []int{4}, "o", atO)
	}
}

// P16.1: a mark that stands behind many is behind each of them, and what it has is told once.
func TestBehindMany(t *testing.T) {
	l := samples.Facts("prop 1 p 20; behind 2 1; behind 3 1; behind 4 2; behind 4 3; behind 5 4; behind 1 5; prop 3 p 20; any 2 20; prop 5 p 19")
	for mark := 1; mark <= 5; mark++ {
		loads(t, l, []int{mark, mark}, "p", []int{19, 20})
		loads(t, l, []int{mark}, "q", []int{20})
	}
}
