package step_test

import (
	"cmp"
	"slices"
	"strconv"

	"gumshoe/api"
	"gumshoe/heap"
	"gumshoe/value"
)

// reference runs codes by the chapter's words: stops are handed on from call to call, all frames are kept.
type reference struct {
	funs   []api.Fun
	l      []api.Proc
	input  []int64
	fuel   int
	steps  int
	h      *heap.Heap
	frames []*scene
	events []api.Event
}

// scene is a frame of a function: self is its closure, handlers are the instructions that added them.
type scene struct {
	fun, around int
	number      int
	vars        []api.Val
	this, self  api.Val
	regs        []api.Val
	handlers    []api.Ins
	walks       map[int][]string
	depth       int
}

// stop is why a call does not go on: something was thrown, or the run ends.
type stop struct {
	threw bool
	v     api.Val
	how   int
}

// refer is how the run of a code that is right ends.
func refer(funs []api.Fun, l []api.Proc, input []int64, fuel int) api.Outcome {
	r := &reference{funs: funs, l: l, input: input, fuel: fuel, h: heap.New()}
	_, s := r.enter(api.Obj{Frame: -1}, api.Val{}, api.Val{}, nil, 0)
	o := api.Outcome{Steps: r.steps, Events: r.events}
	if s != nil {
		o.How, o.V = s.how, s.v
	}
	o.Facts = r.facts(o)
	return o
}

func (r *reference) tell(kind, a, b int, s string) {
	r.events = append(r.events, api.Event{Kind: kind, A: a, B: b, S: s})
}

func (r *reference) step() *stop {
	if r.steps == r.fuel {
		return &stop{how: api.WFuel}
	}
	r.steps++
	return nil
}

// of is an object's, if a value is one.
func (r *reference) of(v api.Val) (api.Obj, bool) {
	if v.Kind != api.VRef {
		return api.Obj{}, false
	}
	o, _ := r.h.Obj(int(v.N))
	return o, true
}

func (r *reference) throw(v api.Val) *stop {
	mark := -1
	if o, ok := r.of(v); ok {
		mark = o.Mark
	}
	r.tell(api.EThrow, mark, 0, "")
	return &stop{threw: true, v: v, how: api.WThrow}
}

func (r *reference) refuse() *stop { return r.throw(api.Val{Kind: api.VText, S: "TypeError"}) }

func (r *reference) alloc(o api.Obj) (api.Val, *stop) {
	p, e := r.h.Alloc(o)
	if e != api.OK {
		return api.Val{}, &stop{how: api.WFull}
	}
	r.tell(api.EAlloc, o.Mark, 0, "")
	return api.Val{Kind: api.VRef, N: int64(p)}, nil
}

func (r *reference) enter(o api.Obj, self, this api.Val, args []api.Val, depth int) (api.Val, *stop) {
	r.tell(api.EEnter, o.Code, 0, "")
	fun := r.funs[o.Code]
	f := &scene{fun: o.Code, around: o.Frame, number: len(r.frames), vars: make([]api.Val, len(fun.Vars)), this: this, self: self, walks: map[int][]string{}, depth: depth}
	f.regs = make([]api.Val, r.l[o.Code].Regs)
	copy(f.vars[:fun.Params], args)
	r.frames = append(r.frames, f)
	for at := 0; ; {
		i := r.l[o.Code].Ins[at]
		s := r.step()
		if s == nil && i.Op == api.IRet {
			if i.A < 0 {
				return api.Val{}, nil
			}
			return f.regs[i.A], nil
		}
		if s == nil {
			at, s = r.do(f, i, at)
		}
		if s != nil {
			if !s.threw || len(f.handlers) == 0 {
				return api.Val{}, s
			}
			last := f.handlers[len(f.handlers)-1]
			f.handlers = f.handlers[:len(f.handlers)-1]
			f.regs[last.D] = s.v
			at = int(last.N)
		}
	}
}

// do does an instruction: where it goes on.
func (r *reference) do(f *scene, i api.Ins, at int) (int, *stop) {
	switch at++; i.Op {
	case api.IJump:
		return int(i.N), nil
	case api.IElse:
		if !value.Truthy(f.regs[i.A]) {
			return int(i.N), nil
		}
	case api.ITry:
		f.handlers = append(f.handlers, i)
	case api.IEnd:
		if n := len(f.handlers); n > 0 {
			f.handlers = f.handlers[:n-1]
		}
	case api.IKeys:
		f.walks[i.D] = nil
		if v := f.regs[i.A]; v.Kind == api.VRef {
			f.walks[i.D] = r.h.All(int(v.N))
		}
	case api.INext:
		l := f.walks[i.A]
		if len(l) == 0 {
			return int(i.N), nil
		}
		f.regs[i.D], f.walks[i.A] = api.Val{Kind: api.VText, S: l[0]}, l[1:]
	case api.IThrow:
		return at, r.throw(f.regs[i.A])
	case api.ISet:
		*r.variable(f, i.N) = f.regs[i.A]
	case api.IPut:
		return at, r.put(f.regs[i.A], i.S, f.regs[i.B])
	case api.IPutX:
		return at, r.put(f.regs[i.A], value.Key(f.regs[i.B]), f.regs[i.C])
	default:
		v, s := r.gives(f, i)
		if s != nil {
			return at, s
		}
		f.regs[i.D] = v
	}
	return at, nil
}

// gives is what D becomes.
func (r *reference) gives(f *scene, i api.Ins) (api.Val, *stop) {
	switch i.Op {
	case api.IVal:
		return api.Val{Kind: i.A, N: i.N, S: i.S}, nil
	case api.IVar:
		return *r.variable(f, i.N), nil
	case api.IThis:
		return f.this, nil
	case api.ISelf:
		return f.self, nil
	case api.IInput:
		v := api.Val{Kind: api.VNum}
		if len(r.input) > 0 {
			v.N, r.input = r.input[0], r.input[1:]
		}
		return v, nil
	case api.IObj:
		return r.alloc(api.Obj{Mark: int(i.N), Proto: api.PlaceObject})
	case api.IFun:
		return r.closure(f, int(i.N))
	case api.IGet:
		return r.get(f.regs[i.A], i.S)
	case api.IGetX:
		return r.get(f.regs[i.A], value.Key(f.regs[i.B]))
	case api.ITwo:
		v, e := value.Two(i.S, f.regs[i.A], f.regs[i.B])
		if e != api.OK {
			return api.Val{}, &stop{how: api.WFull}
		}
		return v, nil
	case api.INot:
		return value.Not(f.regs[i.A]), nil
	case api.INeg:
		return value.Neg(f.regs[i.A]), nil
	case api.IMove:
		return f.regs[i.A], nil
	}
	args := []api.Val{}
	for _, register := range i.L {
		args = append(args, f.regs[register])
	}
	if i.Op == api.INew {
		return r.construct(f, f.regs[i.A], args, int(i.N))
	}
	this := api.Val{}
	if i.B >= 0 {
		this = f.regs[i.B]
	}
	return r.call(f, f.regs[i.A], this, args, int(i.N))
}

// variable is that of a number, in the nearest frame around of its function.
func (r *reference) variable(f *scene, n int64) *api.Val {
	for f.fun != int(n/1000) {
		f = r.frames[f.around]
	}
	return &f.vars[n%1000]
}

func (r *reference) closure(f *scene, n int) (api.Val, *stop) {
	v, s := r.alloc(api.Obj{Mark: r.funs[n].Mark, Proto: api.PlaceFunction, Code: n, Frame: f.number})
	if s != nil {
		return api.Val{}, s
	}
	p, s := r.alloc(api.Obj{Mark: r.funs[n].Mark + 1, Proto: api.PlaceObject})
	if s != nil {
		return api.Val{}, s
	}
	r.h.Put(int(v.N), "prototype", p)
	return v, nil
}

func (r *reference) get(of api.Val, key string) (api.Val, *stop) {
	if of.Kind != api.VRef {
		return api.Val{}, r.refuse()
	}
	v, _ := r.h.Get(int(of.N), key)
	return v, nil
}

func (r *reference) put(to api.Val, key string, v api.Val) *stop {
	o, ok := r.of(to)
	if !ok {
		return r.refuse()
	}
	r.h.Put(int(to.N), key, v)
	r.tell(api.EPut, o.Mark, 0, key)
	return nil
}

func (r *reference) construct(f *scene, what api.Val, args []api.Val, mark int) (api.Val, *stop) {
	o, _ := r.of(what)
	if o.Code <= 0 {
		return api.Val{}, r.refuse()
	}
	behind, _ := r.h.Get(int(what.N), "prototype")
	if behind.Kind != api.VRef {
		behind.N = api.PlaceObject
	}
	made, s := r.alloc(api.Obj{Mark: mark, Proto: int(behind.N)})
	if s != nil {
		return api.Val{}, s
	}
	v, s := r.call(f, what, made, args, mark)
	if v.Kind != api.VRef {
		v = made
	}
	return v, s
}

func (r *reference) call(f *scene, what, this api.Val, args []api.Val, mark int) (api.Val, *stop) {
	o, _ := r.of(what)
	if o.Code == 0 {
		return api.Val{}, r.refuse()
	}
	r.tell(api.ECall, mark, o.Mark, "")
	if o.Code > 0 {
		if f.depth == 100 {
			return api.Val{}, &stop{how: api.WDeep}
		}
		return r.enter(o, what, this, args, f.depth+1)
	}
	if s := r.step(); s != nil {
		return api.Val{}, s
	}
	args = append(args, make([]api.Val, max(0, 2-len(args)))...)
	if o.Code == api.CodeCall {
		return r.call(f, this, args[0], args[1:], mark)
	}
	var spread []api.Val
	if list := args[1]; list.Kind == api.VRef {
		length, _ := r.h.Get(int(list.N), "length")
		for i := int64(0); i < min(value.Num(length), 8); i++ {
			v, _ := r.h.Get(int(list.N), strconv.FormatInt(i, 10))
			spread = append(spread, v)
		}
	}
	return r.call(f, this, args[0], spread, mark)
}

func (r *reference) facts(o api.Outcome) []api.Fact {
	var l []api.Fact
	add := func(kind, a int, s string, v api.Val) {
		if to, ok := r.of(v); ok {
			l = append(l, api.Fact{Kind: kind, A: a, S: s, B: to.Mark})
		}
	}
	for _, f := range r.frames {
		for i, v := range f.vars {
			add(api.FVar, f.fun*1000+i, "", v)
		}
		add(api.FThis, f.fun, "", f.this)
	}
	for p := range r.h.Len() {
		x, _ := r.h.Obj(p)
		for _, key := range r.h.Keys(p) {
			v, _ := r.h.Own(p, key)
			add(api.FProp, x.Mark, key, v)
		}
		if x.Proto >= 0 {
			add(api.FProto, x.Mark, "", api.Val{Kind: api.VRef, N: int64(x.Proto)})
		}
	}
	for _, e := range r.events {
		switch e.Kind {
		case api.ECall:
			l = append(l, api.Fact{Kind: api.FCall, A: e.A, B: e.B})
		case api.EEnter:
			l = append(l, api.Fact{Kind: api.FEnter, A: e.A})
		}
	}
	if o.How == api.WThrow {
		add(api.FThrown, 0, "", o.V)
	}
	slices.SortFunc(l, func(a, b api.Fact) int {
		return cmp.Or(a.Kind-b.Kind, a.A-b.A, cmp.Compare(a.S, b.S), a.B-b.B)
	})
	return slices.Compact(l)
}
