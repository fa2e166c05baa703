package lower_test

import (
	"cmp"
	"slices"
	"strconv"
	"testing"

	"gumshoe/api"
	"gumshoe/heap"
	"gumshoe/value"
)

// machine runs codes by the words of chapter 11, so that the tests can hold what codes do against what programs do.
type machine struct {
	funs   []api.Fun
	l      []api.Proc
	input  []int64
	fuel   int
	steps  int
	h      *heap.Heap
	frames []*frame
	events []api.Event
}

// frame is one of a function: self is its closure, handlers are the instructions that added them.
type frame struct {
	fun, around int
	number      int
	vars        []api.Val
	this, self  api.Val
	regs        []api.Val
	handlers    []api.Ins
	walks       map[int][]string
	depth       int
}

// stop is why a call does not go on: something was thrown, or the run ends.
type stop struct {
	threw bool
	v     api.Val
	how   int
}

// runCode runs a code that is right.
func runCode(t *testing.T, funs []api.Fun, l []api.Proc, input []int64, fuel int) api.Outcome {
	t.Helper()
	m := &machine{funs: funs, l: l, input: input, fuel: fuel, h: heap.New()}
	_, s := m.enter(api.Obj{Frame: -1}, api.Val{}, api.Val{}, nil, 0)
	o := api.Outcome{Steps: m.steps, Events: m.events}
	if s != nil {
		o.How, o.V = s.how, s.v
	}
	o.Facts = m.facts(o)
	return o
}

func (m *machine) tell(kind, a, b int, s string) {
	m.events = append(m.events, api.Event{Kind: kind, A: a, B: b, S: s})
}

func (m *machine) step() *stop {
	if m.steps == m.fuel {
		return &stop{how: api.WFuel}
	}
	m.steps++
	return nil
}

// of is an object's, if a value is one.
func (m *machine) of(v api.Val) (api.Obj, bool) {
	if v.Kind != api.VRef {
		return api.Obj{}, false
	}
	o, _ := m.h.Obj(int(v.N))
	return o, true
}

func (m *machine) throw(v api.Val) *stop {
	mark := -1
	if o, ok := m.of(v); ok {
		mark = o.Mark
	}
	m.tell(api.EThrow, mark, 0, "")
	return &stop{threw: true, v: v, how: api.WThrow}
}

func (m *machine) refuse() *stop { return m.throw(api.Val{Kind: api.VText, S: "TypeError"}) }

func (m *machine) alloc(o api.Obj) (api.Val, *stop) {
	p, e := m.h.Alloc(o)
	if e != api.OK {
		return api.Val{}, &stop{how: api.WFull}
	}
	m.tell(api.EAlloc, o.Mark, 0, "")
	return api.Val{Kind: api.VRef, N: int64(p)}, nil
}

func (m *machine) enter(o api.Obj, self, this api.Val, args []api.Val, depth int) (api.Val, *stop) {
	m.tell(api.EEnter, o.Code, 0, "")
	fun := m.funs[o.Code]
	f := &frame{fun: o.Code, around: o.Frame, number: len(m.frames), vars: make([]api.Val, len(fun.Vars)), this: this, self: self, walks: map[int][]string{}, depth: depth}
	f.regs = make([]api.Val, m.l[o.Code].Regs)
	copy(f.vars[:fun.Params], args)
	m.frames = append(m.frames, f)
	for at := 0; ; {
		i := m.l[o.Code].Ins[at]
		s := m.step()
		if s == nil && i.Op == api.IRet {
			if i.A < 0 {
				return api.Val{}, nil
			}
			return f.regs[i.A], nil
		}
		if s == nil {
			at, s = m.do(f, i, at)
		}
		if s != nil {
			if !s.threw || len(f.handlers) == 0 {
				return api.Val{}, s
			}
			last := f.handlers[len(f.handlers)-1]
			f.handlers = f.handlers[:len(f.handlers)-1]
			f.regs[last.D] = s.v
			at = int(last.N)
		}
	}
}

// do does an instruction: where it goes on.
func (m *machine) do(f *frame, i api.Ins, at int) (int, *stop) {
	switch at++; i.Op {
	case api.IJump:
		return int(i.N), nil
	case api.IElse:
		if !value.Truthy(f.regs[i.A]) {
			return int(i.N), nil
		}
	case api.ITry:
		f.handlers = append(f.handlers, i)
	case api.IEnd:
		if n := len(f.handlers); n > 0 {
			f.handlers = f.handlers[:n-1]
		}
	case api.IKeys:
		f.walks[i.D] = nil
		if v := f.regs[i.A]; v.Kind == api.VRef {
			f.walks[i.D] = m.h.All(int(v.N))
		}
	case api.INext:
		l := f.walks[i.A]
		if len(l) == 0 {
			return int(i.N), nil
		}
		f.regs[i.D], f.walks[i.A] = api.Val{Kind: api.VText, S: l[0]}, l[1:]
	case api.IThrow:
		return at, m.throw(f.regs[i.A])
	case api.ISet:
		*m.variable(f, i.N) = f.regs[i.A]
	case api.IPut:
		return at, m.put(f.regs[i.A], i.S, f.regs[i.B])
	case api.IPutX:
		return at, m.put(f.regs[i.A], value.Key(f.regs[i.B]), f.regs[i.C])
	default:
		v, s := m.gives(f, i)
		if s != nil {
			return at, s
		}
		f.regs[i.D] = v
	}
	return at, nil
}

// gives is what D becomes.
func (m *machine) gives(f *frame, i api.Ins) (api.Val, *stop) {
	switch i.Op {
	case api.IVal:
		return api.Val{Kind: i.A, N: i.N, S: i.S}, nil
	case api.IVar:
		return *m.variable(f, i.N), nil
	case api.IThis:
		return f.this, nil
	case api.ISelf:
		return f.self, nil
	case api.IInput:
		v := api.Val{Kind: api.VNum}
		if len(m.input) > 0 {
			v.N, m.input = m.input[0], m.input[1:]
		}
		return v, nil
	case api.IObj:
		return m.alloc(api.Obj{Mark: int(i.N), Proto: api.PlaceObject})
	case api.IFun:
		return m.closure(f, int(i.N))
	case api.IGet:
		return m.get(f.regs[i.A], i.S)
	case api.IGetX:
		return m.get(f.regs[i.A], value.Key(f.regs[i.B]))
	case api.ITwo:
		v, e := value.Two(i.S, f.regs[i.A], f.regs[i.B])
		if e != api.OK {
			return api.Val{}, &stop{how: api.WFull}
		}
		return v, nil
	case api.INot:
		return value.Not(f.regs[i.A]), nil
	case api.INeg:
		return value.Neg(f.regs[i.A]), nil
	case api.IMove:
		return f.regs[i.A], nil
	}
	args := []api.Val{}
	for _, r := range i.L {
		args = append(args, f.regs[r])
	}
	if i.Op == api.INew {
		return m.construct(f, f.regs[i.A], args, int(i.N))
	}
	this := api.Val{}
	if i.B >= 0 {
		this = f.regs[i.B]
	}
	return m.call(f, f.regs[i.A], this, args, int(i.N))
}

// variable is that of a number, in the nearest frame around of its function.
func (m *machine) variable(f *frame, n int64) *api.Val {
	for f.fun != int(n/1000) {
		f = m.frames[f.around]
	}
	return &f.vars[n%1000]
}

func (m *machine) closure(f *frame, n int) (api.Val, *stop) {
	v, s := m.alloc(api.Obj{Mark: m.funs[n].Mark, Proto: api.PlaceFunction, Code: n, Frame: f.number})
	if s != nil {
		return api.Val{}, s
	}
	p, s := m.alloc(api.Obj{Mark: m.funs[n].Mark + 1, Proto: api.PlaceObject})
	if s != nil {
		return api.Val{}, s
	}
	m.h.Put(int(v.N), "prototype", p)
	return v, nil
}

func (m *machine) get(of api.Val, key string) (api.Val, *stop) {
	if of.Kind != api.VRef {
		return api.Val{}, m.refuse()
	}
	v, _ := m.h.Get(int(of.N), key)
	return v, nil
}

func (m *machine) put(to api.Val, key string, v api.Val) *stop {
	o, ok := m.of(to)
	if !ok {
		return m.refuse()
	}
	m.h.Put(int(to.N), key, v)
	m.tell(api.EPut, o.Mark, 0, key)
	return nil
}

func (m *machine) construct(f *frame, what api.Val, args []api.Val, mark int) (api.Val, *stop) {
	o, _ := m.of(what)
	if o.Code <= 0 {
		return api.Val{}, m.refuse()
	}
	behind, _ := m.h.Get(int(what.N), "prototype")
	if behind.Kind != api.VRef {
		behind.N = api.PlaceObject
	}
	made, s := m.alloc(api.Obj{Mark: mark, Proto: int(behind.N)})
	if s != nil {
		return api.Val{}, s
	}
	v, s := m.call(f, what, made, args, mark)
	if v.Kind != api.VRef {
		v = made
	}
	return v, s
}

func (m *machine) call(f *frame, what, this api.Val, args []api.Val, mark int) (api.Val, *stop) {
	o, _ := m.of(what)
	if o.Code == 0 {
		return api.Val{}, m.refuse()
	}
	m.tell(api.ECall, mark, o.Mark, "")
	if o.Code > 0 {
		if f.depth == 100 {
			return api.Val{}, &stop{how: api.WDeep}
		}
		return m.enter(o, what, this, args, f.depth+1)
	}
	if s := m.step(); s != nil {
		return api.Val{}, s
	}
	args = append(args, make([]api.Val, max(0, 2-len(args)))...)
	if o.Code == api.CodeCall {
		return m.call(f, this, args[0], args[1:], mark)
	}
	var spread []api.Val
	if list := args[1]; list.Kind == api.VRef {
		length, _ := m.h.Get(int(list.N), "length")
		for i := int64(0); i < min(value.Num(length), 8); i++ {
			v, _ := m.h.Get(int(list.N), strconv.FormatInt(i, 10))
			spread = append(spread, v)
		}
	}
	return m.call(f, this, args[0], spread, mark)
}

func (m *machine) facts(o api.Outcome) []api.Fact {
	var l []api.Fact
	add := func(kind, a int, s string, v api.Val) {
		if to, ok := m.of(v); ok {
			l = append(l, api.Fact{Kind: kind, A: a, S: s, B: to.Mark})
		}
	}
	for _, f := range m.frames {
		for i, v := range f.vars {
			add(api.FVar, f.fun*1000+i, "", v)
		}
		add(api.FThis, f.fun, "", f.this)
	}
	for p := range m.h.Len() {
		x, _ := m.h.Obj(p)
		for _, key := range m.h.Keys(p) {
			v, _ := m.h.Own(p, key)
			add(api.FProp, x.Mark, key, v)
		}
		if x.Proto >= 0 {
			add(api.FProto, x.Mark, "", api.Val{Kind: api.VRef, N: int64(x.Proto)})
		}
	}
	for _, e := range m.events {
		switch e.Kind {
		case api.ECall:
			l = append(l, api.Fact{Kind: api.FCall, A: e.A, B: e.B})
		case api.EEnter:
			l = append(l, api.Fact{Kind: api.FEnter, A: e.A})
		}
	}
	if o.How == api.WThrow {
		add(api.FThrown, 0, "", o.V)
	}
	slices.SortFunc(l, func(a, b api.Fact) int {
		return cmp.Or(a.Kind-b.Kind, a.A-b.A, cmp.Compare(a.S, b.S), a.B-b.B)
	})
	return slices.Compact(l)
}
