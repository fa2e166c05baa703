package rules_test

import (
	"fmt"
	"testing"

	"gumshoe/api"
	"gumshoe/jtree"
	"gumshoe/rules"
	"gumshoe/samples"
)

// roomy is a tree whose lists have spare room, with trees in it.
func roomy(n api.Node) api.Node {
	var l []api.Node
	for _, part := range n.L {
		l = append(l, roomy(part))
	}
	n.L = append(l, node(-1, "spare"), node(-2, "spare"))[:len(l)]
	return n
}

// spared tells whether the spare room of a tree's lists is as it was.
func spared(n api.Node) bool {
	for _, part := range n.L {
		if !spared(part) {
			return false
		}
	}
	room := n.L[len(n.L) : len(n.L)+2]
	return room[0].Op == -1 && room[1].Op == -2
}

// overwrite fills all lists of a tree, and their spare room.
func overwrite(n api.Node) {
	for i := range n.L[:cap(n.L)] {
		if i < len(n.L) {
			overwrite(n.L[i])
		}
		n.L[:cap(n.L)][i] = api.Node{Op: -7, S: "overwritten", N: -7, Line: -7}
	}
}

// fill fills a list, from a place on, and its spare room.
func fill[T any](l []T, from int, with T) {
	for i := from; i < cap(l); i++ {
		l[:cap(l)][i] = with
	}
}

// fillAll fills all lists of functions and a system: just their spare room, or all of them, the inner ones first.
func fillAll(funs []api.Fun, s api.System, spare bool) {
	from := func(length int) int {
		if spare {
			return length
		}
		return 0
	}
	for _, f := range funs {
		fill(f.Vars, from(len(f.Vars)), "filled")
	}
	for _, f := range s.Funs {
		fill(f.Params, from(len(f.Params)), -7)
	}
	for _, r := range s.Rules {
		fill(r.L, from(len(r.L)), -7)
	}
	fill(funs, from(len(funs)), api.Fun{Name: "filled"})
	fill(s.Funs, from(len(s.Funs)), api.FunSets{Mark: -7})
	fill(s.Rules, from(len(s.Rules)), api.Rule{Kind: -7})
}

// R3: the program is neither written into, nor its spare room, nor handed out.
func TestProgramsAreLeft(t *testing.T) {
	for seed := range uint64(150) {
		p := made(24, seed)
		r := roomy(p)
		funs, s := ruled(t, r)
		if !jtree.Same(r, p) || !spared(r) {
			t.Fatalf("%s was changed", samples.Shown(p))
		}
		was := fmt.Sprint(funs, s)
		overwrite(r)
		if fmt.Sprint(funs, s) != was {
			t.Fatalf("%s: what was handed in is shared with the answer", samples.Shown(p))
		}
	}
}

// R3, R4: no two lists of an answer share any memory, spare room too, and no answer hangs on another one.
func TestAnswersShareNothing(t *testing.T) {
	for seed := range uint64(150) {
		p := made(25, seed)
		funs, s := ruled(t, p)
		was := fmt.Sprint(funs, s)
		fillAll(funs, s, true)
		if fmt.Sprint(funs, s) != was {
			t.Fatalf("%s: lists share spare room", samples.Shown(p))
		}
		apart(t, s)
		fillAll(funs, s, false)
		if again, other := ruled(t, p); fmt.Sprint(again, other) != was {
			t.Fatalf("%s: answers share something", samples.Shown(p))
		}
	}
}

// apart asks that no two lists of sets have a number in common, in their spare room neither.
func apart(t *testing.T, s api.System) {
	t.Helper()
	var lists [][]int
	for _, f := range s.Funs {
		lists = append(lists, f.Params)
	}
	for _, r := range s.Rules {
		lists = append(lists, r.L)
	}
	met := map[*int]bool{}
	for _, l := range lists {
		for i := range l[:cap(l)] {
			at := &l[:cap(l)][i]
			if met[at] {
				t.Fatal("two lists share a number")
			}
			met[at] = true
		}
	}
}

// R3: functions and a system that are handed to VarSet are neither written into, nor kept.
func TestHandedSystemsAreLeft(t *testing.T) {
	for seed := range uint64(50) {
		p := made(26, seed)
		funs, s := ruled(t, p)
		was := fmt.Sprint(funs, s)
		var l []int
		for n := range len(funs) * 1000 {
			set, _ := rules.VarSet(funs, s, n)
			l = append(l, set)
		}
		if fmt.Sprint(funs, s) != was {
			t.Fatalf("%s: a system was changed", samples.Shown(p))
		}
		fillAll(funs, s, false)
		funs, s = ruled(t, p)
		for n, want := range l {
			if set, _ := rules.VarSet(funs, s, n); set != want {
				t.Fatalf("%s: the variable %d has the set %d, and then %d", samples.Shown(p), n, want, set)
			}
		}
	}
}

// again is a tree with other names of variables, and other lines.
func again(n api.Node, name func(s string) string, line int) api.Node {
	switch n.Op {
	case api.XId, api.SVar, api.SForIn, api.STry, api.SFunc, api.XFun:
		if n.S != "" {
			n.S = name(n.S)
		}
	}
	l := make([]api.Node, 0, len(n.L)+1)
	for i, part := range n.L {
		l = append(l, again(part, name, 3*line-i))
	}
	n.L, n.Line = l, line
	return n
}

// P12.3: names that are written otherwise, all alike, and lines.
func TestOtherNames(t *testing.T) {
	for seed := range uint64(300) {
		p := made(27, seed)
		funs, s := ruled(t, p)
		for line, name := range []func(s string) string{
			func(s string) string { return s },
			func(s string) string { return s + "_" },
			func(s string) string { return map[string]string{"a": "f", "b": "a", "c": "g", "f": "b", "g": "c"}[s] },
			func(s string) string {
				return map[string]string{"a": "p", "b": "eval", "c": "prototype", "f": "arguments", "g": "$"}[s]
			},
		} {
			q := again(p, name, 5-line)
			otherFuns, other := ruled(t, q)
			if !alike(s, other) {
				t.Fatalf("%s has another system than %s", samples.Shown(q), samples.Shown(p))
			}
			for n := range len(funs) * 1000 {
				set, e := rules.VarSet(funs, s, n)
				if otherSet, otherE := rules.VarSet(otherFuns, other, n); set != otherSet || e != otherE {
					t.Fatalf("%s: the variable %d has another set than in %s", samples.Shown(q), n, samples.Shown(p))
				}
			}
		}
	}
}
