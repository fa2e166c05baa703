package walk

import (
	"gumshoe/api"
	"gumshoe/runs"
	"gumshoe/value"
)

// expr is the value of an expression.
func (m *machine) expr(f *frame, x api.Node) api.Val {
	m.Step()
	switch x.Op {
	case api.XId:
		return *f.Variable(x.N)
	case api.XThis:
		return f.This
	case api.XInput:
		return m.Read()
	case api.XFun:
		return m.Closure(f.Frame, x.N)
	case api.XObj:
		return m.literal(f, x)
	case api.XMem, api.XIdx:
		_, v := m.member(f, x)
		return v
	case api.XSet:
		return m.set(f, x)
	case api.XBin:
		return m.Two(x.S, m.expr(f, x.L[0]), m.expr(f, x.L[1]))
	case api.XNot:
		return value.Not(m.expr(f, x.L[0]))
	case api.XNeg:
		return value.Neg(m.expr(f, x.L[0]))
	case api.XAnd, api.XOr:
		v := m.expr(f, x.L[0])
		if value.Truthy(v) == (x.Op == api.XAnd) {
			return m.expr(f, x.L[1])
		}
		return v
	case api.XCond:
		if value.Truthy(m.expr(f, x.L[0])) {
			return m.expr(f, x.L[1])
		}
		return m.expr(f, x.L[2])
	case api.XCall:
		return m.invoke(f, x)
	case api.XNew:
		return m.construct(f, x)
	}
	return constant(x)
}

// exprs are the values of expressions, from left to right.
func (m *machine) exprs(f *frame, l []api.Node) []api.Val {
	var values []api.Val
	for _, x := range l {
		values = append(values, m.expr(f, x))
	}
	return values
}

// constant is the value of an expression that has the same one each time.
func constant(x api.Node) api.Val {
	var v api.Val
	switch x.Op {
	case api.XNum:
		v.Kind, v.N = api.VNum, x.N
	case api.XStr:
		v.Kind, v.S = api.VText, x.S
	case api.XTrue:
		v.N = 1
		fallthrough
	case api.XFalse:
		v.Kind = api.VBool
	case api.XNull:
		v.Kind = api.VNull
	}
	return v
}

// literal is a new object, with what its pairs put.
func (m *machine) literal(f *frame, x api.Node) api.Val {
	v := m.Object(x.N)
	for _, pair := range x.L {
		m.SetMember(v, pair.S, m.expr(f, pair.L[0]))
	}
	return v
}

// spot is where an XMem or XIdx gets or puts: of which value, at which key.
func (m *machine) spot(f *frame, x api.Node) (api.Val, string) {
	v := m.expr(f, x.L[0])
	if x.Op == api.XMem {
		return v, x.S
	}
	return v, value.Key(m.expr(f, x.L[1]))
}

// member is the object of an XMem or XIdx, and what is got of it.
func (m *machine) member(f *frame, x api.Node) (api.Val, api.Val) {
	o, key := m.spot(f, x)
	return o, m.Member(o, key)
}

// set puts a value into a variable, or at a key.
func (m *machine) set(f *frame, x api.Node) api.Val {
	to, from := x.L[0], x.L[1]
	if to.Op == api.XId {
		v := m.expr(f, from)
		*f.Variable(to.N) = v
		return v
	}
	o, key := m.spot(f, to)
	v := m.expr(f, from)
	m.SetMember(o, key, v)
	return v
}

// invoke is what a call gives.
func (m *machine) invoke(f *frame, x api.Node) api.Val {
	c := runs.Call{Mark: x.N}
	switch what := x.L[0]; what.Op {
	case api.XMem, api.XIdx:
		m.Step()
		c.This, c.What = m.member(f, what)
	default:
		c.What = m.expr(f, what)
	}
	c.Args = m.exprs(f, x.L[1:])
	return m.do(m.Call(f.Frame, c))
}

// construct is what a construction gives: what is returned, if it is an object, else the new one.
func (m *machine) construct(f *frame, x api.Node) api.Val {
	g := m.Construct(f.Frame, runs.Call{What: m.expr(f, x.L[0]), Args: m.exprs(f, x.L[1:]), Mark: x.N})
	if v := m.do(g); v.Kind == api.VRef {
		return v
	}
	return g.This
}
