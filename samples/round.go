package samples

import (
	"cmp"
	"slices"

	"gumshoe/api"
)

// Round is one round of facts: they, and all that the rules of a system ask for, word by word as the chapters have it, where all is looked up in these facts alone.
func Round(s api.System, l []api.Fact) []api.Fact {
	a := &asker{System: s, had: l, sets: make([][]int, s.Sets)}
	for _, f := range l {
		if f.Kind == api.FIn {
			a.sets[f.A] = append(a.sets[f.A], f.B)
		}
	}
	a.is(l...)
	a.is(api.Fact{Kind: api.FEnter}, api.Fact{Kind: api.FProp, A: 1, S: "call", B: 2}, api.Fact{Kind: api.FProp, A: 1, S: "apply", B: 3},
		api.Fact{Kind: api.FProto, A: 1}, api.Fact{Kind: api.FProto, A: 2, B: 1}, api.Fact{Kind: api.FProto, A: 3, B: 1})
	for _, r := range s.Rules {
		if slices.Contains(l, api.Fact{Kind: api.FEnter, A: r.F}) {
			a.rule(r)
		}
	}
	for _, f := range l {
		if f.Kind == api.FCall {
			a.device(f)
		}
	}
	slices.SortFunc(a.next, Order)
	return slices.Compact(a.next)
}

// Order tells which of two facts comes first.
func Order(f, g api.Fact) int {
	return cmp.Or(cmp.Compare(f.Kind, g.Kind), cmp.Compare(f.A, g.A), cmp.Compare(f.S, g.S), cmp.Compare(f.B, g.B))
}

// asker finds what is asked for.
type asker struct {
	api.System
	had  []api.Fact
	sets [][]int // what each set had
	next []api.Fact
}

func (a *asker) is(l ...api.Fact) { a.next = append(a.next, l...) }

func (a *asker) has(set int, marks ...int) {
	for _, m := range marks {
		a.is(api.Fact{Kind: api.FIn, A: set, B: m})
	}
}

// behind are a mark and all that stand behind it.
func (a *asker) behind(mark int) []int {
	l := []int{mark}
	for i := 0; i < len(l); i++ {
		for _, f := range a.had {
			if f.Kind == api.FProto && f.A == l[i] && !slices.Contains(l, f.B) {
				l = append(l, f.B)
			}
		}
	}
	return l
}

// key is what a mark has at a key; at any one, if every is true.
func (a *asker) key(mark int, key string, every bool) []int {
	var l []int
	for _, m := range a.behind(mark) {
		for _, f := range a.had {
			if f.A == m && (f.Kind == api.FAny || f.Kind == api.FProp && (every || f.S == key)) {
				l = append(l, f.B)
			}
		}
	}
	return l
}

// callee is how a mark is called: args are what the i-th argument has.
type callee struct {
	mark   int
	this   []int
	args   func(i int) []int
	all    []int
	gives  int
	throws int
}

func (a *asker) enter(g int, c callee) {
	f := a.Funs[g]
	a.is(api.Fact{Kind: api.FCall, A: c.mark, B: f.Mark}, api.Fact{Kind: api.FEnter, A: g})
	a.has(f.This, c.this...)
	for i, p := range f.Params {
		a.has(p, c.args(i)...)
	}
	a.has(c.gives, a.sets[f.Ret]...)
	a.has(c.throws, a.sets[f.Throw]...)
}

func (a *asker) called(mark int, c callee) {
	for g := 1; g < len(a.Funs); g++ {
		if a.Funs[g].Mark == mark {
			a.enter(g, c)
		}
	}
	if mark == 2 || mark == 3 {
		first := a.Sets - 9 + 4*(mark-2)
		a.is(api.Fact{Kind: api.FCall, A: c.mark, B: mark})
		a.has(first, c.this...)
		a.has(first+1, c.all...)
		a.has(c.gives, a.sets[first+2]...)
		a.has(c.throws, a.sets[first+3]...)
	}
}

// device is what call or apply calls, if a call calls one of them.
func (a *asker) device(f api.Fact) {
	n := a.Sets - 9
	first, with := n, a.sets[n+1]
	switch f.B {
	case 2:
	case 3:
		first, with = n+4, a.sets[n+8]
		for _, m := range a.sets[n+5] {
			a.has(n+8, a.key(m, "", true)...)
		}
	default:
		return
	}
	for _, m := range a.sets[first] {
		a.called(m, callee{f.A, a.sets[first+1], func(int) []int { return with }, with, first + 2, first + 3})
	}
}

// of is how a rule calls.
func (a *asker) of(r api.Rule) callee {
	c := callee{mark: r.M, gives: r.Y, throws: r.N, args: func(i int) []int {
		if i < len(r.L) {
			return a.sets[r.L[i]]
		}
		return nil
	}}
	for _, n := range r.L {
		c.all = append(c.all, a.sets[n]...)
	}
	return c
}

func (a *asker) construct(r api.Rule, mark int) {
	for g := 1; g < len(a.Funs); g++ {
		if a.Funs[g].Mark != mark {
			continue
		}
		a.has(r.Y, r.M)
		a.is(api.Fact{Kind: api.FProto, A: r.M})
		for _, b := range a.key(mark, "prototype", false) {
			a.is(api.Fact{Kind: api.FProto, A: r.M, B: b})
		}
		c := a.of(r)
		c.this = []int{r.M}
		a.enter(g, c)
	}
}

func (a *asker) rule(r api.Rule) {
	switch r.Kind {
	case api.RObj:
		a.has(r.X, r.M)
		a.is(api.Fact{Kind: api.FProto, A: r.M})
	case api.RFun:
		m := a.Funs[r.N].Mark
		a.has(r.X, m)
		a.is(api.Fact{Kind: api.FProp, A: m, S: "prototype", B: m + 1}, api.Fact{Kind: api.FProto, A: m, B: 1}, api.Fact{Kind: api.FProto, A: m + 1})
	default:
		for _, o := range a.sets[r.X] {
			a.each(r, o)
		}
	}
}

// each is what a rule asks for because of one mark of its X.
func (a *asker) each(r api.Rule, o int) {
	switch r.Kind {
	case api.RSub:
		a.has(r.Y, o)
	case api.RLoad:
		a.has(r.Y, a.key(o, r.S, false)...)
	case api.RLoadX:
		a.has(r.Y, a.key(o, "", true)...)
	case api.RStore:
		for _, b := range a.sets[r.Y] {
			a.is(api.Fact{Kind: api.FProp, A: o, S: r.S, B: b})
		}
	case api.RAny:
		for _, b := range a.sets[r.Y] {
			a.is(api.Fact{Kind: api.FAny, A: o, B: b})
		}
	case api.RCall:
		c := a.of(r)
		if r.Z != -1 {
			c.this = a.sets[r.Z]
		}
		a.called(o, c)
	case api.RNew:
		a.construct(r, o)
	}
}
