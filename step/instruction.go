package step

import (
	"gumshoe/api"
	"gumshoe/runs"
	"gumshoe/value"
)

func (m *machine) constant(f *frame, i api.Ins) {
	f.registers[i.D] = api.Val{Kind: i.A, N: i.N, S: i.S}
}

func (m *machine) variable(f *frame, i api.Ins) { f.registers[i.D] = *f.Variable(i.N) }

func (m *machine) setVariable(f *frame, i api.Ins) { *f.Variable(i.N) = f.registers[i.A] }

func (m *machine) this(f *frame, i api.Ins) { f.registers[i.D] = f.This }

func (m *machine) self(f *frame, i api.Ins) { f.registers[i.D] = f.Self }

func (m *machine) input(f *frame, i api.Ins) { f.registers[i.D] = m.Read() }

func (m *machine) object(f *frame, i api.Ins) { f.registers[i.D] = m.Object(i.N) }

func (m *machine) closure(f *frame, i api.Ins) { f.registers[i.D] = m.Closure(f.Frame, i.N) }

func (m *machine) member(f *frame, i api.Ins) {
	f.registers[i.D] = m.Member(f.registers[i.A], i.S)
}

func (m *machine) index(f *frame, i api.Ins) {
	f.registers[i.D] = m.Member(f.registers[i.A], value.Key(f.registers[i.B]))
}

func (m *machine) setMember(f *frame, i api.Ins) {
	m.SetMember(f.registers[i.A], i.S, f.registers[i.B])
}

func (m *machine) setIndex(f *frame, i api.Ins) {
	m.SetMember(f.registers[i.A], value.Key(f.registers[i.B]), f.registers[i.C])
}

// call calls with VUndef as this where B is -1: no register is that one, so nothing has become its value.
func (m *machine) call(f *frame, i api.Ins) {
	c := runs.Call{What: f.registers[i.A], This: f.registers[i.B], Args: f.values(i.L), Mark: i.N}
	f.registers[i.D] = m.do(m.Call(f.Frame, c))
}

func (m *machine) construct(f *frame, i api.Ins) {
	g := m.Construct(f.Frame, runs.Call{What: f.registers[i.A], Args: f.values(i.L), Mark: i.N})
	v := m.do(g)
	if v.Kind != api.VRef {
		v = g.This
	}
	f.registers[i.D] = v
}

func (m *machine) two(f *frame, i api.Ins) {
	f.registers[i.D] = m.Two(i.S, f.registers[i.A], f.registers[i.B])
}

func (m *machine) not(f *frame, i api.Ins) { f.registers[i.D] = value.Not(f.registers[i.A]) }

func (m *machine) negative(f *frame, i api.Ins) { f.registers[i.D] = value.Neg(f.registers[i.A]) }

func (m *machine) move(f *frame, i api.Ins) { f.registers[i.D] = f.registers[i.A] }

func (m *machine) jump(f *frame, i api.Ins) { f.at = int(i.N) }

func (m *machine) otherwise(f *frame, i api.Ins) {
	if !value.Truthy(f.registers[i.A]) {
		m.jump(f, i)
	}
}

// ret returns VUndef where A is -1, as call does.
func (m *machine) ret(f *frame, i api.Ins) { f.returns, f.over = f.registers[i.A], true }

func (m *machine) throw(f *frame, i api.Ins) { m.Throw(f.registers[i.A]) }

func (m *machine) try(f *frame, i api.Ins) {
	f.handlers = append(f.handlers, handler{i.D, int(i.N)})
}

func (m *machine) end(f *frame, _ api.Ins) { f.drop() }

func (m *machine) keys(f *frame, i api.Ins) { f.walk(i.D, m.KeysOf(f.registers[i.A])) }

func (m *machine) next(f *frame, i api.Ins) {
	key, ok := f.key(i.A)
	if !ok {
		m.jump(f, i)
		return
	}
	f.registers[i.D] = api.Val{Kind: api.VText, S: key}
}
