package walk

import (
	"gumshoe/api"
	"gumshoe/value"
)

// ending is how a statement ends, if nothing is thrown.
type ending int

const (
	goesOn ending = iota
	breaks
	continues
	returns
)

// block does a block's statements, up to the first one that does not go on.
func (m *machine) block(f *frame, b api.Node) ending {
	for _, s := range b.L {
		if e := m.statement(f, s); e != goesOn {
			return e
		}
	}
	return goesOn
}

func (m *machine) statement(f *frame, s api.Node) ending {
	if s.Op == api.SBlock {
		return m.block(f, s)
	}
	m.Step()
	switch s.Op {
	case api.SVar:
		if len(s.L) > 0 {
			*f.Variable(s.N) = m.expr(f, s.L[0])
		}
	case api.SExpr:
		m.expr(f, s.L[0])
	case api.SIf:
		return m.choose(f, s)
	case api.SWhile:
		return m.loop(f, s.L[1], m.whiles(f, s))
	case api.SForIn:
		return m.loop(f, s.L[1], m.keys(f, s))
	case api.SRet:
		if len(s.L) > 0 {
			f.returns = m.expr(f, s.L[0])
		}
		return returns
	case api.SThrow:
		m.Throw(m.expr(f, s.L[0]))
	case api.STry:
		return m.try(f, s)
	case api.SBreak:
		return breaks
	case api.SCont:
		return continues
	}
	return goesOn
}

func (m *machine) choose(f *frame, s api.Node) ending {
	switch {
	case value.Truthy(m.expr(f, s.L[0])):
		return m.block(f, s.L[1])
	case len(s.L) > 2:
		return m.block(f, s.L[2])
	}
	return goesOn
}

// loop does a block in each of the rounds that there are, until one ends them.
func (m *machine) loop(f *frame, b api.Node, rounds func(yield func() bool)) ending {
	e := goesOn
rounds:
	for range rounds {
		switch m.block(f, b) {
		case returns:
			e = returns
			fallthrough
		case breaks:
			break rounds
		}
	}
	return e
}

// whiles are rounds as long as what is asked counts as true.
func (m *machine) whiles(f *frame, s api.Node) func(yield func() bool) {
	return func(yield func() bool) {
		for value.Truthy(m.expr(f, s.L[0])) && yield() {
		}
	}
}

// keys are rounds, one for each key that there is as they begin.
func (m *machine) keys(f *frame, s api.Node) func(yield func() bool) {
	return func(yield func() bool) {
		for _, key := range m.KeysOf(m.expr(f, s.L[0])) {
			*f.Variable(s.N) = api.Val{Kind: api.VText, S: key}
			if !yield() {
				return
			}
		}
	}
}

// try does a block, and another one, if something is thrown in the first one.
func (m *machine) try(f *frame, s api.Node) ending {
	var e ending
	v, threw := m.Attempt(func() { e = m.block(f, s.L[0]) })
	if !threw {
		return e
	}
	*f.Variable(s.N) = v
	return m.block(f, s.L[1])
}
