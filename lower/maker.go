package lower

import "gumshoe/api"

// none stands in the place of a register where there is none.
const none = -1

// maker makes a function's proc.
type maker struct {
	ins         []api.Ins
	used        int // registers: those below it are in use
	regs        int // how many were in use at most
	leaving     leaving
	expressions map[int]func(x api.Node, d int)
	statements  map[int]func(s api.Node)
}

// hole takes the place at which a jump goes on.
type hole func(place int)

// leaving are the jumps that leave the innermost loop, or the innermost first block of a try that stands within it.
type leaving struct{ breaks, continues []hole }

func newMaker() *maker {
	m := &maker{}
	m.expressions = map[int]func(x api.Node, d int){
		api.XId:    m.id,
		api.XNum:   m.constant,
		api.XStr:   m.constant,
		api.XTrue:  m.constant,
		api.XFalse: m.constant,
		api.XNull:  m.constant,
		api.XUndef: m.constant,
		api.XThis:  m.this,
		api.XInput: m.input,
		api.XFun:   m.closure,
		api.XObj:   m.object,
		api.XMem:   m.member,
		api.XIdx:   m.index,
		api.XCall:  m.call,
		api.XNew:   m.construction,
		api.XSet:   m.set,
		api.XBin:   m.two,
		api.XNot:   m.not,
		api.XNeg:   m.negative,
		api.XAnd:   m.and,
		api.XOr:    m.or,
		api.XCond:  m.cond,
	}
	m.statements = map[int]func(s api.Node){
		api.SVar:   m.variable,
		api.SExpr:  m.alone,
		api.SBlock: m.block,
		api.SIf:    m.choice,
		api.SWhile: m.while,
		api.SForIn: m.forIn,
		api.SRet:   m.ret,
		api.SThrow: m.throw,
		api.STry:   m.try,
		api.SBreak: m.breaks,
		api.SCont:  m.continues,
		api.SFunc:  m.nothing,
	}
	return m
}

// add adds instructions.
func (m *maker) add(l ...api.Ins) { m.ins = append(m.ins, l...) }

// jump adds an instruction that goes on, or may go on, at a place that is yet to be told.
func (m *maker) jump(i api.Ins) hole {
	at := len(m.ins)
	m.add(i)
	return func(place int) { m.ins[at].N = int64(place) }
}

// land lets jumps go on at a place.
func land(place int, l ...hole) {
	for _, fill := range l {
		fill(place)
	}
}

// here lets jumps go on at what is added next.
func (m *maker) here(l ...hole) { land(len(m.ins), l...) }

// take takes a register into use.
func (m *maker) take() int {
	r := m.used
	m.used++
	m.regs = max(m.regs, m.used)
	return r
}

// expression lets a register become an expression's value: those that it took meanwhile are free again.
func (m *maker) expression(x api.Node, d int) {
	used := m.used
	m.expressions[x.Op](x, d)
	m.used = used
}

// value takes a register, and lets it become an expression's value.
func (m *maker) value(x api.Node) int {
	d := m.take()
	m.expression(x, d)
	return d
}

// values are the registers of expressions' values.
func (m *maker) values(l []api.Node) []int {
	var out []int
	for _, x := range l {
		out = append(out, m.value(x))
	}
	return out
}

// statement adds what one does: the registers that it took are free again.
func (m *maker) statement(s api.Node) {
	used := m.used
	m.statements[s.Op](s)
	m.used = used
}
