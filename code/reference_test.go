package code_test

import (
	"math"
	"math/rand/v2"
	"slices"
	"strings"

	"gumshoe/api"
)

// named is what an operation names, in the words of the chapter's table; false if the table has none such.
func named(op int) (string, bool) {
	table := []string{
		1: "D A N S", 2: "D N", 3: "A N", 4: "D", 5: "D", 6: "D N", 7: "D N", 8: "D A S", 9: "A S B", 10: "D A B", 11: "A B C", 12: "D A B L N", 13: "D A L N",
		14: "D A S B", 15: "D A", 16: "D A", 17: "D A", 18: "N", 19: "A N", 20: "A", 21: "A", 22: "D N", 23: "", 24: "D A", 25: "D A N", 26: "D",
	}
	if op < 1 || op >= len(table) {
		return "", false
	}
	return table[op], true
}

// reference tells whether a list of procs is a code, by the chapter's words.
func reference(l []api.Proc) bool {
	for _, p := range l {
		if p.Regs < 0 || p.Regs > 60000 || len(p.Ins) == 0 || len(p.Ins) > 60000 || p.Ins[len(p.Ins)-1].Op != 20 {
			return false
		}
		for _, i := range p.Ins {
			if !referenceIns(i, p.Regs, int64(len(p.Ins)), int64(len(l))) {
				return false
			}
		}
	}
	return len(l) > 0
}

func referenceIns(i api.Ins, regs int, places int64, functions int64) bool {
	names, ok := named(i.Op)
	has := func(field string) bool { return strings.Contains(names, field) }
	for at, n := range []int{i.D, i.A, i.B, i.C} {
		field := "DABC"[at : at+1]
		register := n >= 0 && n < regs
		nothing := n == -1 && (i.Op == 12 && field == "B" || i.Op == 20)
		kind := i.Op == 1 && field == "A" // that it is one, constant asks below
		if !has(field) && n != 0 || has(field) && !register && !nothing && !kind {
			return false
		}
	}
	for _, n := range i.L {
		if !has("L") || n < 0 || n >= regs {
			return false
		}
	}
	return ok && referenceNumber(i, has("N"), places, functions) && (has("S") || i.S == "") && (i.Op != 14 || slices.Contains(strings.Fields("+ - * < <= === !=="), i.S))
}

func referenceNumber(i api.Ins, has bool, places int64, functions int64) bool {
	switch i.Op {
	case 1:
		switch i.A {
		case 0, 1:
			return i.N == 0 && i.S == ""
		case 2:
			return (i.N == 0 || i.N == 1) && i.S == ""
		case 3:
			return i.S == ""
		}
		return i.A == 4 && i.N == 0
	case 2, 3:
		for f := range functions {
			if i.N >= f*1000 && i.N <= f*1000+199 {
				return true
			}
		}
		return false
	case 6, 12, 13:
		return i.N >= 4 && i.N <= 1000000
	case 7:
		return i.N > 0 && i.N < functions
	case 18, 19, 22, 25:
		return i.N >= 0 && i.N < places
	}
	return !has && i.N == 0
}

// ret is what ends procs that have nothing to return.
func ret() api.Ins { return api.Ins{Op: api.IRet, A: -1} }

// holding is a code of three procs: in the second one, of three registers, stands an instruction at the place 1 of 4; the others have room for more, and for less.
func holding(i api.Ins) []api.Proc {
	return []api.Proc{
		{Regs: 9, Ins: []api.Ins{{Op: api.IEnd}, {Op: api.IEnd}, {Op: api.IEnd}, {Op: api.IEnd}, ret()}},
		{Regs: 3, Ins: []api.Ins{{Op: api.IEnd}, i, {Op: api.IEnd}, ret()}},
		{Regs: 0, Ins: []api.Ins{ret()}},
	}
}

// one is a code of one proc, that ends with nothing to return.
func one(regs int, l ...api.Ins) []api.Proc {
	return []api.Proc{{Regs: regs, Ins: append(slices.Clone(l), ret())}}
}

// samples are right instructions, where holding holds them: one of each operation, at the place of its number.
func samples() []api.Ins {
	return []api.Ins{
		api.IVal:   {Op: api.IVal, D: 1, A: api.VText, S: "a"},
		api.IVar:   {Op: api.IVar, D: 1, N: 1003},
		api.ISet:   {Op: api.ISet, A: 1, N: 2199},
		api.IThis:  {Op: api.IThis, D: 2},
		api.IInput: {Op: api.IInput, D: 1},
		api.IObj:   {Op: api.IObj, D: 1, N: 6},
		api.IFun:   {Op: api.IFun, D: 2, N: 2},
		api.IGet:   {Op: api.IGet, D: 1, A: 2, S: "p"},
		api.IPut:   {Op: api.IPut, A: 1, S: "p q", B: 2},
		api.IGetX:  {Op: api.IGetX, D: 0, A: 1, B: 2},
		api.IPutX:  {Op: api.IPutX, A: 2, B: 1, C: 1},
		api.ICall:  {Op: api.ICall, D: 1, A: 2, B: -1, L: []int{0, 2, 2}, N: 9},
		api.INew:   {Op: api.INew, D: 2, A: 1, L: []int{1}, N: 1000000},
		api.ITwo:   {Op: api.ITwo, D: 1, A: 2, S: "<=", B: 1},
		api.INot:   {Op: api.INot, D: 1, A: 2},
		api.INeg:   {Op: api.INeg, D: 2, A: 2},
		api.IMove:  {Op: api.IMove, D: 1, A: 1},
		api.IJump:  {Op: api.IJump, N: 3},
		api.IElse:  {Op: api.IElse, A: 1, N: 1},
		api.IRet:   {Op: api.IRet, A: 1},
		api.IThrow: {Op: api.IThrow, A: 2},
		api.ITry:   {Op: api.ITry, D: 1, N: 2},
		api.IEnd:   {Op: api.IEnd},
		api.IKeys:  {Op: api.IKeys, D: 1, A: 2},
		api.INext:  {Op: api.INext, D: 1, A: 2, N: 3},
		api.ISelf:  {Op: api.ISelf, D: 1},
	}[1:]
}

// far are numbers that are next to a bound of the chapter, or to one of their own kind.
func far() []int64 {
	return []int64{
		math.MinInt64, math.MinInt32, -1000, -5, -2, -1, 0, 1, 2, 3, 4, 5, 199, 200, 999, 1000, 1001, 1199, 1200, 2000, 2199, 2200, 2999, 3000, 3199,
		59999, 60000, 60001, 999999, 1000000, 1000001, 1 << 32, 1<<32 + 1, 1 << 62, math.MaxInt64 - 1, math.MaxInt64,
	}
}

// changed are what is made of an instruction by changing one of its fields.
func changed(i api.Ins) []api.Ins {
	var l []api.Ins
	with := func(change func(i *api.Ins)) {
		c := i
		c.L = slices.Clone(i.L)
		change(&c)
		l = append(l, c)
	}
	for _, n := range far() {
		with(func(i *api.Ins) { i.Op = int(n) })
		with(func(i *api.Ins) { i.D = int(n) })
		with(func(i *api.Ins) { i.A = int(n) })
		with(func(i *api.Ins) { i.B = int(n) })
		with(func(i *api.Ins) { i.C = int(n) })
		with(func(i *api.Ins) { i.N = n })
		with(func(i *api.Ins) { i.L = []int{int(n)} })
		with(func(i *api.Ins) { i.L = append(i.L, int(n)) })
	}
	for op := range 40 {
		with(func(i *api.Ins) { i.Op = op })
	}
	with(func(i *api.Ins) { i.L = nil })
	with(func(i *api.Ins) { i.L = []int{} })
	for _, s := range []string{"", " ", "a", "+", "-", "*", "<", "<=", "===", "!==", "/", "==", "+ ", "\x00", "\xff\n\"", strings.Repeat("a", 300)} {
		with(func(i *api.Ins) { i.S = s })
	}
	return l
}

// random makes codes: right ones, that are small, so that two of them are alike now and then.
func random(r *rand.Rand) []api.Proc {
	l := make([]api.Proc, 1+r.IntN(2))
	for p := range l {
		l[p].Regs = r.IntN(3)
		places := 1 + r.IntN(3)
		for len(l[p].Ins) < places-1 {
			if i := randomIns(r); referenceIns(i, l[p].Regs, int64(places), int64(len(l))) {
				l[p].Ins = append(l[p].Ins, i)
			}
		}
		l[p].Ins = append(l[p].Ins, ret())
	}
	return l
}

// randomIns makes instructions that have something, right or not, in what they name alone.
func randomIns(r *rand.Rand) api.Ins {
	texts := []string{"", "+", "<", "<=", "1", " 1", "0 ", "\"", "\\", "\n", "\\n", "\\x00", "\x00"}
	numbers := []int64{0, 1, 2, 4, 5, 41, 199, 1000, 1001, -1}
	i := api.Ins{Op: r.IntN(27)}
	names, _ := named(i.Op)
	for name := range strings.FieldsSeq(names) {
		switch name {
		case "D":
			i.D = r.IntN(2)
		case "A":
			i.A = r.IntN(4) - 1
		case "B":
			i.B = r.IntN(3) - 1
		case "C":
			i.C = r.IntN(2)
		case "N":
			i.N = numbers[r.IntN(len(numbers))]
		case "S":
			i.S = texts[r.IntN(len(texts))]
		case "L":
			for range r.IntN(3) {
				i.L = append(i.L, r.IntN(2))
			}
		}
	}
	return i
}
