package step

import (
	"gumshoe/api"
	"gumshoe/runs"
)

// machine is a run, and what it runs.
type machine struct {
	*runs.Run
	code   []api.Proc
	doings map[int]func(f *frame, i api.Ins)
}

func newMachine(r *runs.Run, l []api.Proc) *machine {
	m := &machine{Run: r, code: l}
	m.doings = map[int]func(f *frame, i api.Ins){
		api.IVal:   m.constant,
		api.IVar:   m.variable,
		api.ISet:   m.setVariable,
		api.IThis:  m.this,
		api.IInput: m.input,
		api.IObj:   m.object,
		api.IFun:   m.closure,
		api.IGet:   m.member,
		api.IPut:   m.setMember,
		api.IGetX:  m.index,
		api.IPutX:  m.setIndex,
		api.ICall:  m.call,
		api.INew:   m.construct,
		api.ITwo:   m.two,
		api.INot:   m.not,
		api.INeg:   m.negative,
		api.IMove:  m.move,
		api.IJump:  m.jump,
		api.IElse:  m.otherwise,
		api.IRet:   m.ret,
		api.IThrow: m.throw,
		api.ITry:   m.try,
		api.IEnd:   m.end,
		api.IKeys:  m.keys,
		api.INext:  m.next,
		api.ISelf:  m.self,
	}
	return m
}

// do does what a function does that was entered: what it returns.
func (m *machine) do(entered *runs.Frame) api.Val {
	defer m.Leave(entered)
	f := &frame{Frame: entered, ins: m.code[entered.Number].Ins, registers: map[int]api.Val{}}
	for !f.over {
		if v, threw := m.Attempt(func() { m.instructions(f) }); threw {
			m.handle(f, v)
		}
	}
	return f.returns
}

// instructions does a frame's instructions, until one ends it.
func (m *machine) instructions(f *frame) {
	for !f.over {
		m.Step()
		i := f.next()
		m.doings[i.Op](f, i)
	}
}

// handle lets a frame go on behind a throw: if it has no handler, what called it has to.
func (m *machine) handle(f *frame, v api.Val) {
	h, ok := f.drop()
	if !ok {
		m.ThrowOn(v)
	}
	f.registers[h.register] = v
	f.at = h.place
}
