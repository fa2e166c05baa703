package code_test

import (
	"math"
	"math/rand/v2"
	"slices"
	"strings"
	"testing"

	"gumshoe/api"
	"gumshoe/code"
)

// right asks whether a list of procs is a code.
func right(t *testing.T, l []api.Proc, want bool) {
	t.Helper()
	if got := code.Right(l); got != want {
		t.Errorf("Right of %.300v is %v", l, got)
	}
}

// rightIns asks whether an instruction is right, where holding holds it.
func rightIns(t *testing.T, i api.Ins, want bool) {
	t.Helper()
	right(t, holding(i), want)
}

// P9.1: the chapter's example.
func TestExample(t *testing.T) {
	right(t, []api.Proc{{Ins: []api.Ins{{Op: api.IRet, A: -1}}}}, true)
}

// P9.1: how many procs, registers, instructions there are, and which one is the last.
func TestProcs(t *testing.T) {
	right(t, nil, false)
	right(t, []api.Proc{}, false)
	right(t, []api.Proc{{}}, false)
	right(t, []api.Proc{{Regs: 1, Ins: []api.Ins{}}}, false)
	for regs, want := range map[int]bool{0: true, 1: true, 59999: true, 60000: true, 60001: false, -1: false, math.MinInt: false, math.MaxInt: false} {
		right(t, one(regs), want)
		right(t, append(one(1), one(regs)...), want)
		right(t, append(one(regs), one(1)...), want)
	}
	for count, want := range map[int]bool{0: true, 1: true, 59998: true, 59999: true, 60000: false, 60001: false, 100000: false} {
		right(t, one(0, slices.Repeat([]api.Ins{{Op: api.IEnd}}, count)...), want)
	}
	for _, last := range samples() {
		l := holding(ret())
		l[1].Ins[3] = last
		right(t, l, last.Op == api.IRet)
		l[1].Ins = l[1].Ins[3:]
		right(t, l, last.Op == api.IRet)
	}
	right(t, slices.Repeat(one(0), api.MaxFuns), true)
	for at := range 3 {
		l := append(append(one(1), one(1)...), one(1)...)
		l[at].Ins = nil
		right(t, l, false)
	}
}

// P9.1: one instruction of each operation is right; without what it names, or with what it does not name, it is as the chapter's words say.
func TestInstructions(t *testing.T) {
	for _, i := range samples() {
		rightIns(t, i, true)
		for _, c := range changed(i) {
			rightIns(t, c, reference(holding(c)))
		}
	}
}

// P9.1: no operation but those of the table.
func TestOperations(t *testing.T) {
	for _, op := range []int{math.MinInt, -26, -1, 0, 27, 28, 100, 256 + api.IEnd, 1<<32 + api.IEnd, math.MaxInt} {
		rightIns(t, api.Ins{Op: op}, false)
	}
	rightIns(t, api.Ins{Op: api.IEnd}, true)
}

// P9.1: where an instruction may have -1, and where it may not.
func TestNoRegister(t *testing.T) {
	rightIns(t, api.Ins{Op: api.IRet, A: -1}, true)
	rightIns(t, api.Ins{Op: api.IRet, A: -2}, false)
	rightIns(t, api.Ins{Op: api.IRet, A: 2}, true)
	rightIns(t, api.Ins{Op: api.IRet, A: 3}, false)
	rightIns(t, api.Ins{Op: api.ICall, B: -1, N: 4}, true)
	rightIns(t, api.Ins{Op: api.ICall, B: -2, N: 4}, false)
	rightIns(t, api.Ins{Op: api.ICall, B: 0, N: 4}, true)
	rightIns(t, api.Ins{Op: api.ICall, B: 3, N: 4}, false)
	rightIns(t, api.Ins{Op: api.INew, B: -1, N: 4}, false)
	rightIns(t, api.Ins{Op: api.INew, B: 1, N: 4}, false)
	rightIns(t, api.Ins{Op: api.IThrow, A: -1}, false)
	rightIns(t, api.Ins{Op: api.IMove, D: -1}, false)
	rightIns(t, api.Ins{Op: api.IMove, A: -1}, false)
	rightIns(t, api.Ins{Op: api.ICall, D: -1, N: 4}, false)
	rightIns(t, api.Ins{Op: api.ICall, A: -1, N: 4}, false)
	rightIns(t, api.Ins{Op: api.ICall, L: []int{-1}, N: 4}, false)
	right(t, one(0, api.Ins{Op: api.IThrow}), false) // of no registers 0 is none
	right(t, one(0, api.Ins{Op: api.IRet}), false)
	right(t, one(1, api.Ins{Op: api.IThrow}), true)
}

// P9.1: registers are those of the instruction's own proc, up to the last one of the greatest proc.
func TestRegisters(t *testing.T) {
	right(t, one(60000, api.Ins{Op: api.IMove, D: 59999, A: 59999}), true)
	right(t, one(60000, api.Ins{Op: api.IMove, D: 60000, A: 0}), false)
	right(t, one(60000, api.Ins{Op: api.IMove, D: 0, A: 60000}), false)
	wide, narrow := one(5, api.Ins{Op: api.IThis, D: 4}), one(4, api.Ins{Op: api.IThis, D: 4})
	right(t, append(wide, one(1)...), true)
	right(t, append(narrow, wide...), false)
	right(t, append(wide, narrow...), false)
	many := make([]int, 100000)
	right(t, one(1, api.Ins{Op: api.ICall, L: many, N: 4}), true) // nothing says how long a list may be
	many[len(many)-1] = 1
	right(t, one(1, api.Ins{Op: api.ICall, L: many, N: 4}), false)
	right(t, one(1, api.Ins{Op: api.INew, L: many, N: 4}), false)
}

// P9.1: values of all kinds but VRef.
func TestValues(t *testing.T) {
	for _, c := range []struct {
		kind int
		n    int64
		s    string
		want bool
	}{
		{api.VUndef, 0, "", true},
		{api.VUndef, 1, "", false},
		{api.VUndef, 0, "a", false},
		{api.VNull, 0, "", true},
		{api.VNull, -1, "", false},
		{api.VNull, 0, "a", false},
		{api.VBool, 0, "", true},
		{api.VBool, 1, "", true},
		{api.VBool, 2, "", false},
		{api.VBool, -1, "", false},
		{api.VBool, 1, "a", false},
		{api.VNum, 0, "", true},
		{api.VNum, math.MinInt64, "", true},
		{api.VNum, math.MaxInt64, "", true},
		{api.VNum, 1, "1", false},
		{api.VText, 0, "", true},
		{api.VText, 0, "\x00\xff\"", true},
		{api.VText, 1, "a", false},
		{api.VRef, 0, "", false},
		{api.VRef, 1, "", false},
		{6, 0, "", false},
		{-1, 0, "", false},
		{math.MaxInt, 0, "", false},
	} {
		i := api.Ins{Op: api.IVal, A: c.kind, N: c.n, S: c.s}
		right(t, one(1, i), c.want) // the kind is no register: one is enough
		right(t, one(9, i), c.want)
		right(t, one(0, i), false)
		i.D = 1
		right(t, one(1, i), false)
	}
}

// P9.1: places, functions, variables, marks.
func TestNumbers(t *testing.T) {
	for _, n := range far() {
		place := n >= 0 && n <= 3
		rightIns(t, api.Ins{Op: api.IJump, N: n}, place)
		rightIns(t, api.Ins{Op: api.IElse, N: n}, place)
		rightIns(t, api.Ins{Op: api.ITry, N: n}, place)
		rightIns(t, api.Ins{Op: api.INext, N: n}, place)
		rightIns(t, api.Ins{Op: api.IFun, N: n}, n == 1 || n == 2)
		variable := n >= 0 && n <= 199 || n >= 1000 && n <= 1199 || n >= 2000 && n <= 2199
		rightIns(t, api.Ins{Op: api.IVar, N: n}, variable)
		rightIns(t, api.Ins{Op: api.ISet, N: n}, variable)
		mark := n >= 4 && n <= 1000000
		rightIns(t, api.Ins{Op: api.IObj, N: n}, mark)
		rightIns(t, api.Ins{Op: api.ICall, N: n}, mark)
		rightIns(t, api.Ins{Op: api.INew, N: n}, mark)
	}
	right(t, one(1, api.Ins{Op: api.IFun, N: 1}), false) // there is the function 0 alone
	right(t, one(0, api.Ins{Op: api.IJump, N: 1}), true)
	right(t, one(0, api.Ins{Op: api.IJump, N: 2}), false)
}

// P9.1: signs, and keys of any bytes.
func TestTexts(t *testing.T) {
	for _, s := range []string{"", "a", "+", "-", "*", "<", "<=", "===", "!==", "/", ">", ">=", "==", "!=", "!", "&&", "in", "+ ", "++", "\xff\x00", strings.Repeat("a", 70000)} {
		rightIns(t, api.Ins{Op: api.IGet, S: s}, true)
		rightIns(t, api.Ins{Op: api.IPut, S: s}, true)
		sign := slices.Contains([]string{"+", "-", "*", "<", "<=", "===", "!=="}, s)
		rightIns(t, api.Ins{Op: api.ITwo, S: s}, sign)
		rightIns(t, api.Ins{Op: api.IGetX, S: s}, s == "")
		rightIns(t, api.Ins{Op: api.INot, S: s}, s == "")
	}
}

// P9.1: all combinations of few numbers, held against the chapter's words.
func TestRightLikeTheWords(t *testing.T) {
	few, count := []int{-1, 0, 1, 3}, 0
	each := func(op, d, a int) {
		for _, b := range few {
			for _, c := range few {
				for _, n := range []int64{-1, 0, 1, 4, 1200} {
					for _, i := range []api.Ins{{}, {S: "+"}, {S: "a"}, {L: []int{2, 1}}, {L: []int{3}}} {
						i.Op, i.D, i.A, i.B, i.C, i.N = op, d, a, b, c, n
						l := holding(i)
						want := reference(l)
						right(t, l, want)
						if want {
							count++
						}
					}
				}
			}
		}
	}
	for op := range 28 {
		for _, d := range few {
			for _, a := range few {
				each(op, d, a)
			}
		}
	}
	if count < 150 {
		t.Errorf("%d are right", count)
	}
}

// P9.1, R1: any lists, held against the chapter's words.
func TestRightOfAny(t *testing.T) {
	r := rand.New(rand.NewPCG(9, 1))
	some := func() int64 { return far()[r.IntN(len(far()))] }
	for range 20000 {
		l := random(r)
		right(t, l, true)
		p := &l[r.IntN(len(l))]
		i := &p.Ins[r.IntN(len(p.Ins))]
		switch r.IntN(8) {
		case 0:
			p.Regs = int(some())
		case 1:
			p.Ins = p.Ins[:r.IntN(len(p.Ins))]
		case 2:
			*i = randomIns(r)
		case 3:
			i.D, i.A = int(some()), int(some())
		case 4:
			i.B, i.C = int(some()), int(some())
		case 5:
			i.N = some()
		case 6:
			i.Op = int(some())
		case 7:
			i.L = append(i.L, int(some()))
		}
		right(t, l, reference(l))
	}
}
