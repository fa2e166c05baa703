package walk_test

import (
	"cmp"
	"slices"
	"strconv"

	"gumshoe/api"
	"gumshoe/value"
)

// part is a tree of a program with the numbers that the chapters give it, found by a count of the reference's own.
type part struct {
	api.Node
	l      []*part
	mark   int
	number int      // of a function
	vars   []string // of a function
	params int
}

// reference runs a program by the chapter's words: variables by their names, stops handed on from tree to tree, nothing thrown away.
type reference struct {
	marks, numbers int
	fuel, steps    int
	input          []int64
	objects        []*thing
	frames         []*scene
	events         []api.Event
}

// thing is an object.
type thing struct {
	mark   int
	behind *thing
	calls  *part // a function
	scene  *scene
	keys   []string
	at     map[string]api.Val
	place  int
}

// scene is a frame.
type scene struct {
	fun   *part
	up    *scene
	vars  map[string]api.Val
	this  api.Val
	depth int
}

// stop is why a tree does not go on: its kind is one of the words below, or how the run ends.
type stop struct {
	kind string
	v    api.Val
	how  int
}

const threw, broke, continued, returned, over = "throw", "break", "continue", "return", "over"

func (r *reference) part(n api.Node) *part {
	p := &part{Node: n}
	switch n.Op {
	case api.SFunc, api.XFun:
		r.numbers++
		p.number, p.mark = r.numbers, r.marks
		r.marks += 2
	case api.XObj, api.XNew, api.XCall:
		p.mark = r.marks
		r.marks++
	}
	for _, kid := range n.L {
		p.l = append(p.l, r.part(kid))
	}
	return p
}

func (p *part) isFunction() bool { return p.Op == api.SFunc || p.Op == api.XFun }

// names are a function's variables.
func (p *part) names() {
	add := func(s string) {
		if !slices.Contains(p.vars, s) {
			p.vars = append(p.vars, s)
		}
	}
	body := p
	if p.isFunction() {
		for _, x := range p.l[:len(p.l)-1] {
			add(x.S)
		}
		p.params = len(p.vars)
		if p.Op == api.XFun && p.S != "" {
			add(p.S)
		}
		body = p.l[len(p.l)-1]
	}
	body.own(func(q *part) {
		switch q.Op {
		case api.SVar, api.SForIn, api.STry, api.SFunc:
			add(q.S)
		}
	})
}

// own does something with what is within a body, but not within a function in it.
func (p *part) own(do func(q *part)) {
	for _, q := range p.l {
		do(q)
		if !q.isFunction() {
			q.own(do)
		}
	}
}

// refer runs a program that has no error.
func refer(p api.Node, input []int64, fuel int) api.Outcome {
	r := &reference{marks: 4, fuel: fuel, input: input}
	object := r.thing(0, nil)
	function := r.thing(1, object)
	for _, s := range []string{"call", "apply"} {
		function.put(s, r.value(r.thing(2+len(function.keys), function)))
	}
	whole := r.part(p)
	_, s := r.enter(whole, nil, api.Val{}, api.Val{}, nil, 0)
	o := api.Outcome{Steps: r.steps, Events: r.events}
	if s != nil && s.kind == threw {
		o.How, o.V = api.WThrow, s.v
	} else if s != nil {
		o.How = s.how
	}
	o.Facts = r.facts(o)
	return o
}

func (r *reference) thing(mark int, behind *thing) *thing {
	o := &thing{mark: mark, behind: behind, at: map[string]api.Val{}, place: len(r.objects)}
	r.objects = append(r.objects, o)
	return o
}

func (r *reference) value(o *thing) api.Val { return ref(int64(o.place)) }

func (r *reference) of(v api.Val) *thing {
	if v.Kind != api.VRef {
		return nil
	}
	return r.objects[v.N]
}

func (o *thing) put(key string, v api.Val) {
	if !slices.Contains(o.keys, key) {
		o.keys = append(o.keys, key)
	}
	o.at[key] = v
}

func (o *thing) got(key string) api.Val {
	for ; o != nil; o = o.behind {
		if v, ok := o.at[key]; ok {
			return v
		}
	}
	return api.Val{}
}

func (r *reference) alloc(mark int, behind *thing) (*thing, *stop) {
	if len(r.objects) == 5000 {
		return nil, &stop{kind: over, how: api.WFull}
	}
	r.events = append(r.events, api.Event{Kind: api.EAlloc, A: mark})
	return r.thing(mark, behind), nil
}

func (r *reference) closure(p *part, in *scene) (api.Val, *stop) {
	o, s := r.alloc(p.mark, r.objects[1])
	if s != nil {
		return api.Val{}, s
	}
	o.calls, o.scene = p, in
	q, s := r.alloc(p.mark+1, r.objects[0])
	if s != nil {
		return api.Val{}, s
	}
	o.put("prototype", r.value(q))
	return r.value(o), nil
}

func (r *reference) throw(v api.Val) *stop {
	mark := -1
	if o := r.of(v); o != nil {
		mark = o.mark
	}
	r.events = append(r.events, api.Event{Kind: api.EThrow, A: mark})
	return &stop{kind: threw, v: v}
}

func (r *reference) step() *stop {
	if r.steps == r.fuel {
		return &stop{kind: over, how: api.WFuel}
	}
	r.steps++
	return nil
}

func (r *reference) enter(p *part, up *scene, self, this api.Val, args []api.Val, depth int) (api.Val, *stop) {
	if p.vars == nil {
		p.names()
	}
	r.events = append(r.events, api.Event{Kind: api.EEnter, A: p.number})
	c := &scene{fun: p, up: up, vars: map[string]api.Val{}, this: this, depth: depth}
	r.frames = append(r.frames, c)
	for i, name := range p.vars {
		c.vars[name] = api.Val{}
		if i < p.params && i < len(args) {
			c.vars[name] = args[i]
		}
	}
	body := p
	if p.isFunction() {
		body = p.l[len(p.l)-1]
		if p.Op == api.XFun && slices.Index(p.vars, p.S) >= p.params {
			c.vars[p.S] = self
		}
	}
	var s *stop
	body.own(func(q *part) {
		if q.Op == api.SFunc && s == nil {
			var v api.Val
			if v, s = r.closure(q, c); s == nil {
				c.vars[q.S] = v
			}
		}
	})
	if s == nil {
		s = r.does(c, body)
	}
	if s != nil && s.kind == returned {
		return s.v, nil
	}
	return api.Val{}, s
}

// find is the frame that has a variable of the name.
func (c *scene) find(name string) *scene {
	for ; c.up != nil; c = c.up {
		if _, ok := c.vars[name]; ok {
			break
		}
	}
	return c
}

// list evaluates trees.
func (r *reference) list(c *scene, l []*part) ([]api.Val, *stop) {
	var values []api.Val
	for _, x := range l {
		v, s := r.eval(c, x)
		if s != nil {
			return nil, s
		}
		values = append(values, v)
	}
	return values, nil
}

// spot is of what an XMem or XIdx is, and at which key.
func (r *reference) spot(c *scene, x *part) (api.Val, string, *stop) {
	l, s := r.list(c, x.l)
	if s != nil {
		return api.Val{}, "", s
	}
	if x.Op == api.XMem {
		return l[0], x.S, nil
	}
	return l[0], value.Key(l[1]), nil
}

func (r *reference) member(c *scene, x *part) (api.Val, api.Val, *stop) {
	v, key, s := r.spot(c, x)
	if s != nil {
		return api.Val{}, api.Val{}, s
	}
	o := r.of(v)
	if o == nil {
		return api.Val{}, api.Val{}, r.throw(text("TypeError"))
	}
	return v, o.got(key), nil
}

func (r *reference) puts(to api.Val, key string, v api.Val) *stop {
	o := r.of(to)
	if o == nil {
		return r.throw(text("TypeError"))
	}
	o.put(key, v)
	r.events = append(r.events, api.Event{Kind: api.EPut, A: o.mark, S: key})
	return nil
}

func (r *reference) eval(c *scene, x *part) (api.Val, *stop) {
	if s := r.step(); s != nil {
		return api.Val{}, s
	}
	switch x.Op {
	case api.XId:
		return c.find(x.S).vars[x.S], nil
	case api.XNum:
		return num(x.N), nil
	case api.XStr:
		return text(x.S), nil
	case api.XTrue:
		return api.Val{Kind: api.VBool, N: 1}, nil
	case api.XFalse:
		return api.Val{Kind: api.VBool}, nil
	case api.XNull:
		return api.Val{Kind: api.VNull}, nil
	case api.XThis:
		return c.this, nil
	case api.XInput:
		if len(r.input) == 0 {
			return num(0), nil
		}
		n := r.input[0]
		r.input = r.input[1:]
		return num(n), nil
	case api.XFun:
		return r.closure(x, c)
	case api.XObj:
		o, s := r.alloc(x.mark, r.objects[0])
		for i := 0; i < len(x.l) && s == nil; i++ {
			var v api.Val
			if v, s = r.eval(c, x.l[i].l[0]); s == nil {
				s = r.puts(r.value(o), x.l[i].S, v)
			}
		}
		if s != nil {
			return api.Val{}, s
		}
		return r.value(o), nil
	case api.XMem, api.XIdx:
		_, v, s := r.member(c, x)
		return v, s
	case api.XSet:
		return r.set(c, x)
	case api.XBin:
		l, s := r.list(c, x.l)
		if s != nil {
			return api.Val{}, s
		}
		v, e := value.Two(x.S, l[0], l[1])
		if e != api.OK {
			return api.Val{}, &stop{kind: over, how: api.WFull}
		}
		return v, nil
	case api.XNot, api.XNeg, api.XAnd, api.XOr, api.XCond:
		return r.choice(c, x)
	case api.XCall, api.XNew:
		return r.calls(c, x)
	}
	return api.Val{}, nil
}

func (r *reference) choice(c *scene, x *part) (api.Val, *stop) {
	v, s := r.eval(c, x.l[0])
	yes := value.Truthy(v)
	switch {
	case s != nil:
		return api.Val{}, s
	case x.Op == api.XNot:
		return value.Not(v), nil
	case x.Op == api.XNeg:
		return value.Neg(v), nil
	case x.Op == api.XAnd && yes, x.Op == api.XOr && !yes, x.Op == api.XCond && yes:
		return r.eval(c, x.l[1])
	case x.Op == api.XCond:
		return r.eval(c, x.l[2])
	}
	return v, nil
}

func (r *reference) set(c *scene, x *part) (api.Val, *stop) {
	var to api.Val
	var key string
	var s *stop
	if x.l[0].Op != api.XId {
		if to, key, s = r.spot(c, x.l[0]); s != nil {
			return api.Val{}, s
		}
	}
	v, s := r.eval(c, x.l[1])
	if s != nil {
		return api.Val{}, s
	}
	if x.l[0].Op != api.XId {
		return v, r.puts(to, key, v)
	}
	c.find(x.l[0].S).vars[x.l[0].S] = v
	return v, nil
}

func (r *reference) calls(c *scene, x *part) (api.Val, *stop) {
	var what, this api.Val
	var s *stop
	if first := x.l[0]; x.Op == api.XCall && (first.Op == api.XMem || first.Op == api.XIdx) {
		if s = r.step(); s == nil {
			this, what, s = r.member(c, first)
		}
	} else {
		what, s = r.eval(c, first)
	}
	if s != nil {
		return api.Val{}, s
	}
	args, s := r.list(c, x.l[1:])
	if s != nil {
		return api.Val{}, s
	}
	if x.Op == api.XCall {
		return r.call(c, x.mark, what, this, args)
	}
	o := r.of(what)
	if o == nil || o.calls == nil {
		return api.Val{}, r.throw(text("TypeError"))
	}
	behind := r.of(o.got("prototype"))
	if behind == nil {
		behind = r.objects[0]
	}
	made, s := r.alloc(x.mark, behind)
	if s != nil {
		return api.Val{}, s
	}
	v, s := r.call(c, x.mark, what, r.value(made), args)
	if v.Kind != api.VRef {
		v = r.value(made)
	}
	return v, s
}

func (r *reference) call(c *scene, mark int, what, this api.Val, args []api.Val) (api.Val, *stop) {
	o := r.of(what)
	if o == nil || o.calls == nil && o.place != 2 && o.place != 3 {
		return api.Val{}, r.throw(text("TypeError"))
	}
	r.events = append(r.events, api.Event{Kind: api.ECall, A: mark, B: o.mark})
	if o.calls != nil {
		if c.depth == 100 {
			return api.Val{}, &stop{kind: over, how: api.WDeep}
		}
		return r.enter(o.calls, o.scene, what, this, args, c.depth+1)
	}
	if s := r.step(); s != nil {
		return api.Val{}, s
	}
	args = append(args[:len(args):len(args)], api.Val{}, api.Val{})
	if o.place == 2 {
		return r.call(c, mark, this, args[0], args[1:len(args)-1])
	}
	var spread []api.Val
	if list := r.of(args[1]); list != nil {
		for i := int64(0); i < value.Num(list.got("length")) && i < 8; i++ {
			spread = append(spread, list.got(strconv.FormatInt(i, 10)))
		}
	}
	return r.call(c, mark, this, args[0], spread)
}

func (r *reference) does(c *scene, b *part) *stop {
	for _, p := range b.l {
		if s := r.do(c, p); s != nil {
			return s
		}
	}
	return nil
}

func (r *reference) do(c *scene, p *part) *stop {
	if p.Op == api.SBlock {
		return r.does(c, p)
	}
	if s := r.step(); s != nil {
		return s
	}
	switch p.Op {
	case api.SBreak:
		return &stop{kind: broke}
	case api.SCont:
		return &stop{kind: continued}
	case api.SFunc:
		return nil
	case api.SWhile:
		return r.while(c, p)
	case api.STry:
		s := r.does(c, p.l[0])
		if s != nil && s.kind == threw {
			c.vars[p.S] = s.v
			s = r.does(c, p.l[1])
		}
		return s
	}
	var v api.Val
	if p.Op != api.SVar && p.Op != api.SRet || len(p.l) > 0 {
		var s *stop
		if v, s = r.eval(c, p.l[0]); s != nil {
			return s
		}
	}
	switch p.Op {
	case api.SVar:
		if len(p.l) > 0 {
			c.vars[p.S] = v
		}
	case api.SIf:
		if value.Truthy(v) {
			return r.does(c, p.l[1])
		}
		if len(p.l) == 3 {
			return r.does(c, p.l[2])
		}
	case api.SForIn:
		return r.forIn(c, p, r.of(v))
	case api.SRet:
		return &stop{kind: returned, v: v}
	case api.SThrow:
		return r.throw(v)
	}
	return nil
}

func (r *reference) while(c *scene, p *part) *stop {
	for {
		v, s := r.eval(c, p.l[0])
		if s != nil || !value.Truthy(v) {
			return s
		}
		s = r.does(c, p.l[1])
		if s != nil && s.kind == broke {
			return nil
		}
		if s != nil && s.kind != continued {
			return s
		}
	}
}

func (r *reference) forIn(c *scene, p *part, o *thing) *stop {
	var keys []string
	for ; o != nil; o = o.behind {
		for _, key := range o.keys {
			if !slices.Contains(keys, key) {
				keys = append(keys, key)
			}
		}
	}
	for _, key := range keys {
		c.vars[p.S] = text(key)
		s := r.does(c, p.l[1])
		if s != nil && s.kind == broke {
			return nil
		}
		if s != nil && s.kind != continued {
			return s
		}
	}
	return nil
}

// facts are those of a run that has ended: all that there are, sorted, then each once.
func (r *reference) facts(o api.Outcome) []api.Fact {
	var l []api.Fact
	add := func(f api.Fact, v api.Val) {
		if to := r.of(v); to != nil {
			f.B = to.mark
			l = append(l, f)
		}
	}
	for _, c := range r.frames {
		for i, name := range c.fun.vars {
			add(api.Fact{Kind: api.FVar, A: 1000*c.fun.number + i}, c.vars[name])
		}
		add(api.Fact{Kind: api.FThis, A: c.fun.number}, c.this)
	}
	for _, x := range r.objects {
		for key, v := range x.at {
			add(api.Fact{Kind: api.FProp, A: x.mark, S: key}, v)
		}
		if x.behind != nil {
			l = append(l, api.Fact{Kind: api.FProto, A: x.mark, B: x.behind.mark})
		}
	}
	for _, e := range r.events {
		switch e.Kind {
		case api.ECall:
			l = append(l, api.Fact{Kind: api.FCall, A: e.A, B: e.B})
		case api.EEnter:
			l = append(l, api.Fact{Kind: api.FEnter, A: e.A})
		}
	}
	if o.How == api.WThrow {
		add(api.Fact{Kind: api.FThrown}, o.V)
	}
	slices.SortFunc(l, func(a, b api.Fact) int {
		return cmp.Or(a.Kind-b.Kind, a.A-b.A, cmp.Compare(a.S, b.S), a.B-b.B)
	})
	return slices.Compact(l)
}
