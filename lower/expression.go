package lower

import "gumshoe/api"

func (m *maker) id(x api.Node, d int) { m.add(api.Ins{Op: api.IVar, D: d, N: x.N}) }

func (m *maker) constant(x api.Node, d int) {
	i := api.Ins{Op: api.IVal, D: d}
	switch x.Op {
	case api.XNum:
		i.A, i.N = api.VNum, x.N
	case api.XStr:
		i.A, i.S = api.VText, x.S
	case api.XTrue:
		i.A, i.N = api.VBool, 1
	case api.XFalse:
		i.A = api.VBool
	case api.XNull:
		i.A = api.VNull
	}
	m.add(i)
}

func (m *maker) this(_ api.Node, d int) { m.add(api.Ins{Op: api.IThis, D: d}) }

func (m *maker) input(_ api.Node, d int) { m.add(api.Ins{Op: api.IInput, D: d}) }

func (m *maker) closure(x api.Node, d int) { m.add(api.Ins{Op: api.IFun, D: d, N: x.N}) }

func (m *maker) object(x api.Node, d int) {
	m.add(api.Ins{Op: api.IObj, D: d, N: x.N})
	for _, pair := range x.L {
		v := m.value(pair.L[0])
		m.add(api.Ins{Op: api.IPut, A: d, S: pair.S, B: v})
		m.used = v
	}
}

func (m *maker) member(x api.Node, d int) {
	m.expression(x.L[0], d)
	m.add(api.Ins{Op: api.IGet, D: d, A: d, S: x.S})
}

func (m *maker) index(x api.Node, d int) {
	m.expression(x.L[0], d)
	key := m.value(x.L[1])
	m.add(api.Ins{Op: api.IGetX, D: d, A: d, B: key})
}

// call keeps the object of what is called, which is its this.
func (m *maker) call(x api.Node, d int) {
	this := none
	switch what := x.L[0]; what.Op {
	case api.XMem:
		this = m.value(what.L[0])
		m.add(api.Ins{Op: api.IGet, D: d, A: this, S: what.S})
	case api.XIdx:
		this = m.value(what.L[0])
		m.expression(what.L[1], d)
		m.add(api.Ins{Op: api.IGetX, D: d, A: this, B: d})
	default:
		m.expression(what, d)
	}
	m.add(api.Ins{Op: api.ICall, D: d, A: d, B: this, L: m.values(x.L[1:]), N: x.N})
}

func (m *maker) construction(x api.Node, d int) {
	m.expression(x.L[0], d)
	m.add(api.Ins{Op: api.INew, D: d, A: d, L: m.values(x.L[1:]), N: x.N})
}

func (m *maker) set(x api.Node, d int) {
	switch to, v := x.L[0], x.L[1]; to.Op {
	case api.XId:
		m.expression(v, d)
		m.add(api.Ins{Op: api.ISet, A: d, N: to.N})
	case api.XMem:
		object := m.value(to.L[0])
		m.expression(v, d)
		m.add(api.Ins{Op: api.IPut, A: object, S: to.S, B: d})
	case api.XIdx:
		object, key := m.value(to.L[0]), m.value(to.L[1])
		m.expression(v, d)
		m.add(api.Ins{Op: api.IPutX, A: object, B: key, C: d})
	}
}

func (m *maker) two(x api.Node, d int) {
	m.expression(x.L[0], d)
	second := m.value(x.L[1])
	m.add(api.Ins{Op: api.ITwo, D: d, A: d, S: x.S, B: second})
}

func (m *maker) not(x api.Node, d int) {
	m.expression(x.L[0], d)
	m.add(api.Ins{Op: api.INot, D: d, A: d})
}

func (m *maker) negative(x api.Node, d int) {
	m.expression(x.L[0], d)
	m.add(api.Ins{Op: api.INeg, D: d, A: d})
}

func (m *maker) and(x api.Node, d int) {
	m.expression(x.L[0], d)
	end := m.jump(api.Ins{Op: api.IElse, A: d})
	m.expression(x.L[1], d)
	m.here(end)
}

func (m *maker) or(x api.Node, d int) {
	m.expression(x.L[0], d)
	other := m.jump(api.Ins{Op: api.IElse, A: d})
	end := m.jump(api.Ins{Op: api.IJump})
	m.here(other)
	m.expression(x.L[1], d)
	m.here(end)
}

func (m *maker) cond(x api.Node, d int) {
	m.expression(x.L[0], d)
	other := m.jump(api.Ins{Op: api.IElse, A: d})
	m.expression(x.L[1], d)
	end := m.jump(api.Ins{Op: api.IJump})
	m.here(other)
	m.expression(x.L[2], d)
	m.here(end)
}
