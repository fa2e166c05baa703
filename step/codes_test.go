package step_test

import (
	"math/rand/v2"
	"testing"

	"gumshoe/api"
	"gumshoe/step"
)

// coder makes functions and codes at random that may be run.
type coder struct {
	*rand.Rand
	funs []api.Fun
	l    []api.Proc
}

// coded is the coder of a seed, and what it has made.
func coded(kind uint64, seed uint64) coder {
	c := coder{Rand: generator(kind, seed)}
	for number := range 1 + c.IntN(6) {
		f := api.Fun{Around: -1, Vars: []string{"a", "b", "c"}[:c.IntN(4)], Mark: 4 + 2*c.IntN(20)}
		if number > 0 {
			f.Around = c.IntN(number) * c.IntN(2)
		}
		f.Params = c.IntN(len(f.Vars) + 1)
		c.funs = append(c.funs, f)
	}
	for number := range c.funs {
		c.l = append(c.l, c.proc(number))
	}
	return c
}

func key(c coder) string {
	return []string{"p", "q", "prototype", "call", "apply", "length", "0", "1"}[c.IntN(8)]
}

func pick[T any](c coder, l ...T) T { return l[c.IntN(len(l))] }

// proc begins with things to work on, mostly: objects, closures, what is thrown being taken.
func (c coder) proc(number int) api.Proc {
	p := api.Proc{Regs: 2 + c.IntN(5), Ins: []api.Ins{{Op: api.IObj, N: 4 + int64(c.IntN(9))}}}
	count := 12 + c.IntN(30)
	for inner, f := range c.funs {
		if f.Around == number {
			p.Ins = append(p.Ins, api.Ins{Op: api.IFun, D: c.IntN(p.Regs), N: int64(inner)})
		}
	}
	for range c.IntN(4) {
		p.Ins = append(p.Ins, api.Ins{Op: api.ITry, D: c.IntN(p.Regs), N: int64(c.IntN(count))})
	}
	for len(p.Ins) < count-1 {
		p.Ins = append(p.Ins, c.ins(number, p.Regs, count))
	}
	return api.Proc{Regs: p.Regs, Ins: append(p.Ins, api.Ins{Op: api.IRet, A: c.IntN(p.Regs+1) - 1})}
}

// ins is an instruction of a proc of so many registers and places.
func (c coder) ins(number int, regs int, places int) api.Ins {
	r := func() int { return c.IntN(regs) }
	mark, place := 4+int64(c.IntN(40)), int64(c.IntN(places))
	var list []int
	for range c.IntN(4) {
		list = append(list, r())
	}
	switch c.IntN(30) {
	case 0:
		v := pick(c, api.Val{}, api.Val{Kind: api.VNull}, api.Val{Kind: api.VBool, N: int64(c.IntN(2))}, api.Val{Kind: api.VText, S: key(c)})
		return api.Ins{Op: api.IVal, D: r(), A: v.Kind, N: v.N, S: v.S}
	case 1:
		return api.Ins{Op: api.IVal, D: r(), A: api.VNum, N: int64(c.IntN(4))}
	case 2, 3, 4:
		return c.variable(number, r())
	case 5:
		return api.Ins{Op: pick(c, api.IThis, api.IInput, api.ISelf), D: r()}
	case 6:
		return api.Ins{Op: api.IObj, D: r(), N: mark}
	case 7:
		return c.closure(number, r())
	case 8, 9:
		return api.Ins{Op: api.IGet, D: r(), A: r(), S: key(c)}
	case 10, 11:
		return api.Ins{Op: api.IPut, A: r(), S: key(c), B: r()}
	case 12:
		return api.Ins{Op: api.IGetX, D: r(), A: r(), B: r()}
	case 13:
		return api.Ins{Op: api.IPutX, A: r(), B: r(), C: r()}
	case 14, 15, 16, 17:
		return api.Ins{Op: api.ICall, D: r(), A: r(), B: c.IntN(regs+1) - 1, L: list, N: mark}
	case 18:
		return api.Ins{Op: api.INew, D: r(), A: r(), L: list, N: mark}
	case 19:
		return api.Ins{Op: api.ITwo, D: r(), A: r(), S: pick(c, "+", "+", "-", "*", "<", "<=", "===", "!=="), B: r()}
	case 20:
		return api.Ins{Op: pick(c, api.INot, api.INeg, api.IMove), D: r(), A: r()}
	case 21:
		return api.Ins{Op: api.IJump, N: place}
	case 22:
		return api.Ins{Op: api.IElse, A: r(), N: place}
	case 23:
		return api.Ins{Op: pick(c, api.IRet, api.IThrow), A: r()}
	case 24, 25:
		return api.Ins{Op: api.ITry, D: r(), N: place}
	case 26:
		return api.Ins{Op: api.IEnd}
	case 27:
		return api.Ins{Op: api.IKeys, D: r(), A: r()}
	}
	return api.Ins{Op: api.INext, D: r(), A: r(), N: place}
}

// variable lets a register become a variable that the function knows, or the other way about, if there is one.
func (c coder) variable(number int, register int) api.Ins {
	var l []int64
	for f := number; f >= 0; f = c.funs[f].Around {
		for place := range c.funs[f].Vars {
			l = append(l, int64(f)*api.VarSpan+int64(place))
		}
	}
	if len(l) == 0 {
		return api.Ins{Op: api.IThis, D: register}
	}
	return pick(c, api.Ins{Op: api.IVar, D: register, N: pick(c, l...)}, api.Ins{Op: api.ISet, A: register, N: pick(c, l...)})
}

// closure lets a register become one of a function within, if there is one.
func (c coder) closure(number int, register int) api.Ins {
	var l []int64
	for inner, f := range c.funs {
		if f.Around == number {
			l = append(l, int64(inner))
		}
	}
	if len(l) == 0 {
		return api.Ins{Op: api.ISelf, D: register}
	}
	return api.Ins{Op: api.IFun, D: register, N: pick(c, l...)}
}

// P11.1: codes at random, with inputs and steps at random, held against the reference.
func TestLikeTheReference(t *testing.T) {
	var ended [5]int
	kinds := map[int]int{}
	for seed := range uint64(6000) {
		c := coded(11, seed)
		input := []int64{c.Int64N(5), c.Int64N(5) - 2, c.Int64()}[:c.IntN(4)]
		fuel := pick(c, c.IntN(100), 500, 3000)
		if seed%50 == 0 {
			fuel = 60000
		}
		o, e := step.Run(c.funs, c.l, input, fuel)
		if e != api.OK {
			t.Fatalf("seed %d: %d", seed, e)
		}
		if want := refer(c.funs, c.l, input, fuel); !same(o, want) {
			t.Fatalf("seed %d: %v\n%v\nends %d with %v behind %d steps, not %d with %v behind %d\n%.2000v\nnot\n%.2000v\n%.2000v\nnot\n%.2000v", seed, c.funs, c.l,
				o.How, o.V, o.Steps, want.How, want.V, want.Steps, o.Events, want.Events, o.Facts, want.Facts)
		}
		ended[o.How]++
		for _, e := range o.Events {
			kinds[e.Kind]++
		}
	}
	if ended[api.WEnd] < 600 || ended[api.WFuel] < 600 || ended[api.WThrow] < 600 || ended[api.WDeep] < 3 || ended[api.WFull] < 3 {
		t.Errorf("ends %d", ended)
	}
	for kind := api.EAlloc; kind <= api.EEnter; kind++ {
		if kinds[kind] < 3000 {
			t.Errorf("%d events of the kind %d", kinds[kind], kind)
		}
	}
}
