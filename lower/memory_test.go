package lower_test

import (
	"fmt"
	"testing"

	"gumshoe/api"
	"gumshoe/code"
	"gumshoe/jtree"
	"gumshoe/lower"
	"gumshoe/samples"
)

// roomy is a tree whose lists have spare room, with trees in it.
func roomy(n api.Node) api.Node {
	var l []api.Node
	for _, part := range n.L {
		l = append(l, roomy(part))
	}
	n.L = append(l, node(-1, "spare"), node(-2, "spare"))[:len(l)]
	return n
}

// spared tells whether the spare room of a tree's lists is as it was.
func spared(n api.Node) bool {
	for _, part := range n.L {
		if !spared(part) {
			return false
		}
	}
	room := n.L[len(n.L) : len(n.L)+2]
	return room[0].Op == -1 && room[1].Op == -2
}

// overwrite fills all lists of a tree, and their spare room.
func overwrite(n api.Node) {
	for i := range n.L[:cap(n.L)] {
		if i < len(n.L) {
			overwrite(n.L[i])
		}
		n.L[:cap(n.L)][i] = api.Node{Op: -7, S: "overwritten", N: -7, Line: -7}
	}
}

// fill fills a list, from a place on, and its spare room.
func fill[T any](l []T, from int, with T) {
	for i := from; i < cap(l); i++ {
		l[:cap(l)][i] = with
	}
}

// R3: the program is neither written into, nor its spare room, nor handed out.
func TestProgramsAreLeft(t *testing.T) {
	for seed := range uint64(150) {
		p := made(13, seed)
		r := roomy(p)
		funs, l := lowered(t, r)
		if !jtree.Same(r, p) || !spared(r) {
			t.Fatalf("%s was changed", samples.Shown(p))
		}
		was := fmt.Sprint(funs, l)
		overwrite(r)
		if fmt.Sprint(funs, l) != was {
			t.Fatalf("%s: what was handed in is shared with the answer", samples.Shown(p))
		}
	}
}

// R3, R4: no two lists of an answer share any memory, spare room too, and no answer hangs on another one.
func TestAnswersShareNothing(t *testing.T) {
	for seed := range uint64(150) {
		p := made(14, seed)
		funs, l := lowered(t, p)
		was, text := fmt.Sprint(funs), fmt.Sprint(l)
		fill(funs, len(funs), api.Fun{Name: "filled"})
		fill(l, len(l), api.Proc{Regs: -7})
		for _, f := range funs {
			fill(f.Vars, len(f.Vars), "filled")
		}
		for _, proc := range l {
			fill(proc.Ins, len(proc.Ins), api.Ins{Op: -7})
			for _, i := range proc.Ins {
				fill(i.L, len(i.L), -7)
			}
		}
		if fmt.Sprint(funs) != was || fmt.Sprint(l) != text {
			t.Fatalf("%s: lists share spare room", samples.Shown(p))
		}
		apart(t, l)
		for _, proc := range l {
			for _, i := range proc.Ins {
				fill(i.L, 0, -7)
			}
			fill(proc.Ins, 0, api.Ins{Op: -7})
		}
		for _, f := range funs {
			fill(f.Vars, 0, "filled")
		}
		if again, other := lowered(t, p); fmt.Sprint(again) != was || fmt.Sprint(other) != text {
			t.Fatalf("%s: answers share something", samples.Shown(p))
		}
	}
}

// apart asks that no two lists of registers begin at the same one.
func apart(t *testing.T, l []api.Proc) {
	t.Helper()
	met := map[*int]bool{}
	for _, proc := range l {
		for _, i := range proc.Ins {
			if len(i.L) > 0 && met[&i.L[0]] {
				t.Fatal("two lists share a register")
			}
			if len(i.L) > 0 {
				met[&i.L[0]] = true
			}
		}
	}
}

// R1: what is no right program has an error, and no call panics.
func TestWrongTrees(t *testing.T) {
	for seed := range uint64(2000) {
		p := samples.Changed(generator(15, seed).IntN)
		if !jtree.Right(p) {
			refused(t, p, 0, api.ErrTree)
		} else if funs, l, _, e := lower.Lower(p); e == api.OK && (len(funs) != len(l) || !code.Right(l)) {
			t.Fatalf("%s: no right code", samples.Shown(p))
		}
	}
}
