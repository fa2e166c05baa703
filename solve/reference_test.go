package solve_test

import (
	"cmp"
	"slices"
	"testing"

	"gumshoe/api"
)

// asker says what the chapter's list asks for, word by word, looking it all up in the facts of the round before.
type asker struct {
	api.System
	had  map[api.Fact]bool
	next map[api.Fact]bool
	sets [][]int // what each set had
}

func (a *asker) is(l ...api.Fact) {
	for _, f := range l {
		a.next[f] = true
	}
}

// at are the marks B of facts of a kind, of A, and at S.
func (a *asker) at(kind int, of int, s string) []int {
	var l []int
	for f := range a.had {
		if f.Kind == kind && f.A == of && f.S == s {
			l = append(l, f.B)
		}
	}
	return l
}

func (a *asker) has(set int, marks ...int) {
	for _, m := range marks {
		a.is(api.Fact{Kind: api.FIn, A: set, B: m})
	}
}

// behind are a mark and all that stand behind it.
func (a *asker) behind(mark int) []int {
	l := []int{mark}
	for i := 0; i < len(l); i++ {
		for _, m := range a.at(api.FProto, l[i], "") {
			if !slices.Contains(l, m) {
				l = append(l, m)
			}
		}
	}
	return l
}

// key is what a mark has at a key; at any one, if every is true.
func (a *asker) key(mark int, key string, every bool) []int {
	var l []int
	for _, m := range a.behind(mark) {
		for f := range a.had {
			if f.A == m && (f.Kind == api.FAny || f.Kind == api.FProp && (every || f.S == key)) {
				l = append(l, f.B)
			}
		}
	}
	return l
}

// callee is how a mark is called: args are what the i-th argument has.
type callee struct {
	mark   int
	this   []int
	args   func(i int) []int
	all    []int
	gives  int
	throws int
}

func (a *asker) enter(g int, c callee) {
	f := a.Funs[g]
	a.is(api.Fact{Kind: api.FCall, A: c.mark, B: f.Mark}, api.Fact{Kind: api.FEnter, A: g})
	a.has(f.This, c.this...)
	for i, p := range f.Params {
		a.has(p, c.args(i)...)
	}
	a.has(c.gives, a.sets[f.Ret]...)
	a.has(c.throws, a.sets[f.Throw]...)
}

func (a *asker) called(mark int, c callee) {
	for g := 1; g < len(a.Funs); g++ {
		if a.Funs[g].Mark == mark {
			a.enter(g, c)
		}
	}
	if mark == 2 || mark == 3 {
		first := a.Sets - 9 + 4*(mark-2)
		a.is(api.Fact{Kind: api.FCall, A: c.mark, B: mark})
		a.has(first, c.this...)
		a.has(first+1, c.all...)
		a.has(c.gives, a.sets[first+2]...)
		a.has(c.throws, a.sets[first+3]...)
	}
}

// devices are what call and apply call.
func (a *asker) devices() {
	n := a.Sets - 9
	for f := range a.had {
		if f.Kind != api.FCall || f.B != 2 && f.B != 3 {
			continue
		}
		first, with := n, a.sets[n+1]
		if f.B == 3 {
			first, with = n+4, a.sets[n+8]
			for _, m := range a.sets[n+5] {
				a.has(n+8, a.key(m, "", true)...)
			}
		}
		for _, m := range a.sets[first] {
			a.called(m, callee{f.A, a.sets[first+1], func(int) []int { return with }, with, first + 2, first + 3})
		}
	}
}

// of is how a rule calls.
func (a *asker) of(r api.Rule) callee {
	c := callee{mark: r.M, gives: r.Y, throws: r.N, args: func(i int) []int {
		if i < len(r.L) {
			return a.sets[r.L[i]]
		}
		return nil
	}}
	for _, n := range r.L {
		c.all = append(c.all, a.sets[n]...)
	}
	return c
}

func (a *asker) construct(r api.Rule, mark int) {
	for g := 1; g < len(a.Funs); g++ {
		if a.Funs[g].Mark != mark {
			continue
		}
		a.has(r.Y, r.M)
		a.is(api.Fact{Kind: api.FProto, A: r.M})
		for _, b := range a.key(mark, "prototype", false) {
			a.is(api.Fact{Kind: api.FProto, A: r.M, B: b})
		}
		c := a.of(r)
		c.this = []int{r.M}
		a.enter(g, c)
	}
}

func (a *asker) rule(r api.Rule) {
	switch r.Kind {
	case api.RObj:
		a.has(r.X, r.M)
		a.is(api.Fact{Kind: api.FProto, A: r.M})
		return
	case api.RFun:
		m := a.Funs[r.N].Mark
		a.has(r.X, m)
		a.is(api.Fact{Kind: api.FProp, A: m, S: "prototype", B: m + 1}, api.Fact{Kind: api.FProto, A: m, B: 1}, api.Fact{Kind: api.FProto, A: m + 1})
		return
	}
	for _, o := range a.sets[r.X] {
		switch r.Kind {
		case api.RSub:
			a.has(r.Y, o)
		case api.RLoad:
			a.has(r.Y, a.key(o, r.S, false)...)
		case api.RLoadX:
			a.has(r.Y, a.key(o, "", true)...)
		case api.RStore, api.RAny:
			for _, b := range a.sets[r.Y] {
				if r.Kind == api.RAny {
					a.is(api.Fact{Kind: api.FAny, A: o, B: b})
				} else {
					a.is(api.Fact{Kind: api.FProp, A: o, S: r.S, B: b})
				}
			}
		case api.RCall:
			c := a.of(r)
			if r.Z != -1 {
				c.this = a.sets[r.Z]
			}
			a.called(o, c)
		case api.RNew:
			a.construct(r, o)
		}
	}
}

func (a *asker) round() {
	a.sets = make([][]int, a.Sets)
	for f := range a.had {
		a.next[f] = true
		if f.Kind == api.FIn {
			a.sets[f.A] = append(a.sets[f.A], f.B)
		}
	}
	a.is(api.Fact{Kind: api.FEnter}, api.Fact{Kind: api.FProp, A: 1, S: "call", B: 2}, api.Fact{Kind: api.FProp, A: 1, S: "apply", B: 3},
		api.Fact{Kind: api.FProto, A: 1}, api.Fact{Kind: api.FProto, A: 2, B: 1}, api.Fact{Kind: api.FProto, A: 3, B: 1})
	for _, r := range a.Rules {
		if a.had[api.Fact{Kind: api.FEnter, A: r.F}] {
			a.rule(r)
		}
	}
	a.devices()
}

// reference are a system's facts, by rounds till there are no more.
func reference(s api.System) []api.Fact {
	a := &asker{System: s}
	for a.had == nil || len(a.next) > len(a.had) {
		a.had, a.next = a.next, map[api.Fact]bool{}
		a.round()
	}
	var l []api.Fact
	for f := range a.next {
		l = append(l, f)
	}
	slices.SortFunc(l, order)
	return l
}

func order(a, b api.Fact) int {
	return cmp.Or(cmp.Compare(a.Kind, b.Kind), cmp.Compare(a.A, b.A), cmp.Compare(a.S, b.S), cmp.Compare(a.B, b.B))
}

// P13.1, T3: systems' facts, held against the reference; all kinds of facts are among them, and calls of call and of apply.
func TestReference(t *testing.T) {
	met := map[api.Fact]int{}
	for seed := range uint64(3000) {
		s := made(30, seed)
		l := reference(s)
		is(t, s, l)
		for _, f := range l {
			f.A, f.S, f.B = 0, "", min(f.B, 4)
			met[f]++
		}
	}
	for _, f := range []api.Fact{{Kind: api.FProp, B: 4}, {Kind: api.FProto, B: 4}, {Kind: api.FCall, B: 2}, {Kind: api.FCall, B: 3}, {Kind: api.FCall, B: 4}, {Kind: api.FEnter}, {Kind: api.FAny, B: 4}, {Kind: api.FIn, B: 4}} {
		if met[f] < 500 {
			t.Errorf("of %v there are but %d", f, met[f])
		}
	}
}

// P13.1, T3: programs' facts, held against the reference.
func TestPrograms(t *testing.T) {
	for seed := range uint64(70) {
		s := program(31, seed)
		is(t, s, reference(s))
	}
}
