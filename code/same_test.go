package code_test

import (
	"math"
	"math/rand/v2"
	"reflect"
	"slices"
	"testing"

	"gumshoe/api"
	"gumshoe/code"
)

// plain is a list of procs without its empty lists.
func plain(l []api.Proc) []api.Proc {
	var out []api.Proc
	for _, p := range l {
		q := api.Proc{Regs: p.Regs}
		for _, i := range p.Ins {
			i.L = append([]int(nil), i.L...)
			q.Ins = append(q.Ins, i)
		}
		out = append(out, q)
	}
	return out
}

// alike tells what Same is to tell.
func alike(a []api.Proc, b []api.Proc) bool { return reflect.DeepEqual(plain(a), plain(b)) }

// same asks whether two lists are the same, and each the same as itself.
func same(t *testing.T, a []api.Proc, b []api.Proc, want bool) {
	t.Helper()
	if code.Same(a, b) != want || code.Same(b, a) != want {
		t.Errorf("Same of %.300v and %.300v is not %v", a, b, want)
	}
	if !code.Same(a, plain(a)) || !code.Same(plain(b), b) {
		t.Errorf("%.300v or %.300v is not the same as itself", a, b)
	}
}

// P9.1: what differs in anything is not the same, be it right or not.
func TestSame(t *testing.T) {
	base := api.Ins{Op: 1, D: 2, A: 3, B: 4, C: 5, S: "s", N: 6, L: []int{7, 8}}
	for _, c := range changed(base) {
		same(t, one(1, base), one(1, c), reflect.DeepEqual(base, c))
		same(t, holding(base), holding(c), reflect.DeepEqual(base, c))
	}
	for _, l := range [][]int{{8, 7}, {7}, {8}, {7, 8, 8}, {7, 8, 0}, nil} {
		c := base
		c.L = l
		same(t, one(1, base), one(1, c), false)
	}
	same(t, one(1), one(2), false)
	same(t, one(1), append(one(1), one(1)...), false)
	same(t, one(1, base), one(1), false)
	same(t, one(1, base, ret()), one(1, ret(), base), false)
	same(t, append(one(1), one(2)...), append(one(2), one(1)...), false)
	same(t, []api.Proc{{Regs: 1}}, []api.Proc{{}}, false)
	same(t, []api.Proc{{}}, nil, false)
}

// R3: nil and empty lists are one.
func TestSameEmpty(t *testing.T) {
	same(t, nil, nil, true)
	same(t, nil, []api.Proc{}, true)
	same(t, []api.Proc{{Regs: -1}}, []api.Proc{{Regs: -1, Ins: []api.Ins{}}}, true)
	same(t, one(0, api.Ins{}), one(0, api.Ins{L: []int{}}), true)
	same(t, one(0, api.Ins{}), one(0, api.Ins{L: []int{0}}), false)
}

// P9.1: made codes, and what becomes of them when one thing is changed.
func TestSameOfMade(t *testing.T) {
	r := rand.New(rand.NewPCG(9, 2))
	was := random(r)
	for range 20000 {
		l := random(r)
		same(t, l, was, alike(l, was))
		same(t, l, plain(l), true)
		was = l
	}
}

// marks asks for the marks of a list of procs.
func marks(t *testing.T, l []api.Proc, want ...int) {
	t.Helper()
	if got := code.Marks(l); !slices.Equal(got, want) {
		t.Errorf("Marks of %.300v is %v, not %v", l, got, want)
	}
}

// P9.2: of right lists and others.
func TestMarks(t *testing.T) {
	marks(t, nil)
	marks(t, []api.Proc{{}, {Regs: 3}})
	marks(t, one(0))
	marks(t, one(3, samples()...), 6, 9, 1000000)
	object, called, made := api.Ins{Op: api.IObj, N: 7}, api.Ins{Op: api.ICall, N: 5}, api.Ins{Op: api.INew, N: 5}
	marks(t, slices.Concat(one(1, called, object), one(1), one(1, made, called, made)), 5, 7, 5, 5, 5)
	for _, n := range far() {
		for _, op := range []int{api.IObj, api.ICall, api.INew} {
			marks(t, []api.Proc{{Regs: -1, Ins: []api.Ins{{Op: op, N: n, D: 1, S: "x"}, object}}}, int(n), 7)
		}
	}
	for _, op := range []int{math.MinInt, -6, 0, 27, 1<<32 + api.IObj} {
		marks(t, []api.Proc{{Ins: []api.Ins{{Op: op, N: 4}}}})
	}
	for _, i := range samples() {
		i.N = 44
		switch i.Op {
		case api.IObj, api.ICall, api.INew:
			marks(t, holding(i), 44)
		default:
			marks(t, holding(i))
		}
	}
}

// roomy is a code whose lists have spare room, with something in it.
func roomy() []api.Proc {
	l := append(one(3, samples()...), holding(ret())...)
	for p := range l {
		for i := range l[p].Ins {
			l[p].Ins[i].L = append(slices.Clone(l[p].Ins[i].L), -7, -7)[:len(l[p].Ins[i].L)]
		}
		l[p].Ins = append(l[p].Ins, api.Ins{Op: -7})[:len(l[p].Ins)]
	}
	return append(l, api.Proc{Regs: -7})[:len(l)]
}

// whole is a list of procs with its spare room.
func whole(l []api.Proc) []api.Proc {
	out := slices.Clone(l[:cap(l)])
	for p := range out {
		out[p].Ins = slices.Clone(out[p].Ins[:cap(out[p].Ins)])
		for i := range out[p].Ins {
			out[p].Ins[i].L = slices.Clone(out[p].Ins[i].L[:cap(out[p].Ins[i].L)])
		}
	}
	return out
}

// R3, R4: what is handed in is neither written into, nor kept; what is answered is new each time.
func TestMemory(t *testing.T) {
	l := roomy()
	was := whole(l)
	text, e := code.Show(l)
	got := code.Marks(l)
	if e != api.OK || !code.Right(l) || !code.Same(l, l) || !reflect.DeepEqual(whole(l), was) {
		t.Fatalf("%d: %v was changed", e, l)
	}
	for i := range got[:cap(got)] {
		got[:cap(got)][i] = -9
	}
	marks(t, l, 6, 9, 1000000)
	again, _ := code.Show(l)
	if again != text || !reflect.DeepEqual(whole(l), was) {
		t.Error("what was answered is shared")
	}
	l[0].Regs = 0
	right(t, l, false)
}
