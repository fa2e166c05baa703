package scope_test

import (
	"fmt"
	"slices"
	"testing"

	"gumshoe/api"
	"gumshoe/jtree"
	"gumshoe/scope"
)

// roomy is a tree whose lists have spare room, with trees in it.
func roomy(n api.Node) api.Node {
	var l []api.Node
	for _, part := range n.L {
		l = append(l, roomy(part))
	}
	n.L = append(l, id("spare"), node(-1, "spare"))[:len(l)]
	return n
}

// overwrite fills all lists of a tree, and their spare room, with other trees.
func overwrite(n api.Node) {
	l := n.L[:cap(n.L)]
	for i := range l {
		if i < len(n.L) {
			overwrite(l[i])
		}
		l[i] = api.Node{Op: -7, S: "overwritten", N: -7, Line: -7}
	}
}

// R3: the program is neither written into, nor its spare room, nor kept, nor handed out.
func TestProgramsAreLeft(t *testing.T) {
	for _, p := range append(programs(t, 100, false), programs(t, 100, true)...) {
		r := roomy(p)
		funs, q, _, _ := scope.Resolve(r)
		if !jtree.Same(r, p) || !slices.Equal(lines(r), lines(p)) {
			t.Fatalf("%s was changed", shown(p))
		}
		for _, s := range spots(r) {
			if l := s.L[len(s.L) : len(s.L)+2]; l[0].S != "spare" || l[1].Op != -1 {
				t.Fatalf("%s: spare room was changed: %+v", shown(p), l)
			}
		}
		was := fmt.Sprint(funs, q)
		overwrite(r)
		if fmt.Sprint(funs, q) != was {
			t.Fatalf("%s: what was handed in is shared with the answer", shown(p))
		}
	}
}

// R3: no two lists of an answer share anything, be it that those of the program do.
func TestAnswersShareNothing(t *testing.T) {
	inner := block(variable("a"), expr(id("a")), block(variable("b")))
	f := node(api.SFunc, "f", id("c"), inner)
	p := block(inner, f, inner, f, expr(node(api.XFun, "g", f.L...)))
	funs, r := resolved(t, p)
	if check(t, p) != api.OK || len(funs) != 4 {
		t.Fatal(funs)
	}
	var of func(n api.Node) [][]api.Node
	of = func(n api.Node) [][]api.Node {
		l := [][]api.Node{n.L}
		for _, part := range n.L {
			l = append(l, of(part)...)
		}
		return l
	}
	met := map[*api.Node]bool{}
	for _, l := range of(r) {
		l = l[:cap(l)]
		for i := range l {
			if met[&l[i]] {
				t.Fatal("two lists share a tree")
			}
			met[&l[i]] = true
		}
	}
	texts := map[*string]bool{}
	for _, g := range funs {
		l := g.Vars[:cap(g.Vars)]
		for i := range l {
			if texts[&l[i]] {
				t.Fatal("two lists share a text")
			}
			texts[&l[i]] = true
		}
	}
	again, other := resolved(t, p)
	overwrite(other)
	for _, g := range again {
		for i := range g.Vars {
			g.Vars[i] = "overwritten"
		}
	}
	if third, q := resolved(t, p); fmt.Sprint(third) != fmt.Sprint(funs) || !jtree.Same(q, r) {
		t.Error("an answer hangs on what was done to another one")
	}
}

// R3: lists that are nil, and empty ones.
func TestNilLists(t *testing.T) {
	p := read(t, "var a; function f() { } (function () { }); ({}); this; {}")
	var empty func(n api.Node) api.Node
	empty = func(n api.Node) api.Node {
		l := []api.Node{}
		for _, part := range n.L {
			l = append(l, empty(part))
		}
		n.L = l
		return n
	}
	funs, r := resolved(t, p)
	otherFuns, other := resolved(t, empty(p))
	if functions(funs) != functions(otherFuns) || !jtree.Same(r, other) {
		t.Errorf("%+v, %+v", otherFuns, other)
	}
	if funs, _ := resolved(t, block()); len(funs) != 1 || len(funs[0].Vars) != 0 {
		t.Error(funs)
	}
}

// R1: trees of all sorts are answered, and just the right ones are not refused as trees.
func TestAnyTree(t *testing.T) {
	right := 0
	for seed := range uint64(4000) {
		m := newMaker(seed, true)
		p := m.program()
		l := spots(p)
		if len(l) > 300 {
			continue
		}
		at, want := 0, m.IntN(len(l))
		var spoil func(n api.Node) api.Node
		spoil = func(n api.Node) api.Node {
			if at == want {
				switch m.IntN(4) {
				case 0:
					n.Op = m.IntN(45) - 1
				case 1:
					n.S = []string{"", "a", "if", "+", "a b"}[m.IntN(5)]
				case 2:
					n.N += int64(m.IntN(5)) - 2
				case 3:
					n.L = append(slices.Clone(n.L), m.expr(1))
				}
			}
			at++
			n.L = slices.Clone(n.L)
			for i := range n.L {
				n.L[i] = spoil(n.L[i])
			}
			return n
		}
		p = spoil(p)
		if jtree.Right(p) {
			right++
			check(t, p)
		} else {
			wrong(t, p, 0, api.ErrTree)
		}
		if t.Failed() {
			t.Fatal(seed)
		}
	}
	if right < 100 {
		t.Error(right)
	}
}

// P5.1, R5: as many trees as come, and as high as they may be.
func TestGreat(t *testing.T) {
	p := block(variable("a"))
	for range 20000 {
		p.L = append(p.L, expr(node(api.XObj, "", node(api.XPair, "p", id("a")))))
	}
	if _, r := resolved(t, p); r.L[20000].L[0].N != 20003 {
		t.Error(r.L[20000])
	}
	x := node(api.XFun, "", id("a"), block(expr(id("a"))))
	for range 47 {
		x = node(api.XFun, "", block(node(api.SRet, "", x)))
	}
	for !jtree.Right(block(variable("b"), expr(x))) {
		x = x.L[0].L[0].L[0]
	}
	if check(t, block(variable("b"), expr(x))) != api.OK {
		t.Error("refused")
	}
}
