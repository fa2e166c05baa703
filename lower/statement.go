package lower

import "gumshoe/api"

func (m *maker) block(s api.Node) {
	for _, part := range s.L {
		m.statement(part)
	}
}

func (m *maker) variable(s api.Node) {
	for _, x := range s.L {
		m.add(api.Ins{Op: api.ISet, A: m.value(x), N: s.N})
	}
}

func (m *maker) alone(s api.Node) { m.value(s.L[0]) }

// nothing is what a function does where it stands: its closure came to be as the one around it was entered.
func (m *maker) nothing(_ api.Node) {}

func (m *maker) ret(s api.Node) {
	i := api.Ins{Op: api.IRet, A: none}
	for _, x := range s.L {
		i.A = m.value(x)
	}
	m.add(i)
}

func (m *maker) throw(s api.Node) { m.add(api.Ins{Op: api.IThrow, A: m.value(s.L[0])}) }

func (m *maker) choice(s api.Node) {
	end := m.jump(api.Ins{Op: api.IElse, A: m.value(s.L[0])})
	m.block(s.L[1])
	if len(s.L) == 3 {
		other := end
		end = m.jump(api.Ins{Op: api.IJump})
		m.here(other)
		m.block(s.L[2])
	}
	m.here(end)
}

func (m *maker) while(s api.Node) {
	top := len(m.ins)
	m.loop(top, m.jump(api.Ins{Op: api.IElse, A: m.value(s.L[0])}), s.L[1])
}

// forIn keeps the register that walks through the keys for itself, as long as it does.
func (m *maker) forIn(s api.Node) {
	keys, key := m.take(), m.take()
	m.expression(s.L[0], key)
	m.add(api.Ins{Op: api.IKeys, D: keys, A: key})
	top := len(m.ins)
	end := m.jump(api.Ins{Op: api.INext, D: key, A: keys})
	m.add(api.Ins{Op: api.ISet, A: key, N: s.N})
	m.loop(top, end, s.L[1])
}

// loop adds a loop's block, which goes on at the top; what ends the loop is a jump like its breaks.
func (m *maker) loop(top int, end hole, block api.Node) {
	around := m.leaving
	m.leaving = leaving{breaks: []hole{end}}
	m.block(block)
	m.continues(block)
	land(top, m.leaving.continues...)
	m.here(m.leaving.breaks...)
	m.leaving = around
}

func (m *maker) breaks(_ api.Node) {
	m.leaving.breaks = append(m.leaving.breaks, m.jump(api.Ins{Op: api.IJump}))
}

func (m *maker) continues(_ api.Node) {
	m.leaving.continues = append(m.leaving.continues, m.jump(api.Ins{Op: api.IJump}))
}

func (m *maker) try(s api.Node) {
	thrown := m.take()
	around := m.leaving
	m.leaving = leaving{}
	handler := m.jump(api.Ins{Op: api.ITry, D: thrown})
	m.block(s.L[0])
	within := m.leaving
	m.leaving = around
	m.add(api.Ins{Op: api.IEnd})
	end := m.jump(api.Ins{Op: api.IJump})
	m.leave(within.breaks, m.breaks)
	m.leave(within.continues, m.continues)
	m.here(handler)
	m.add(api.Ins{Op: api.ISet, A: thrown, N: s.N})
	m.block(s.L[1])
	m.here(end)
}

// leave ends a handler for all jumps that leave its block, and goes on with them: one by one, within many blocks, they would make too long a proc.
func (m *maker) leave(l []hole, further func(s api.Node)) {
	if len(l) == 0 {
		return
	}
	m.here(l...)
	m.add(api.Ins{Op: api.IEnd})
	further(api.Node{})
}
