package jread

import "gumshoe/api"

func (r *reader) program() api.Node {
	n := api.Node{Op: api.SBlock, Line: r.here().Line}
	n.L = r.statements()
	return n
}

// statements reads statements up to the end, or to a `}`.
func (r *reader) statements() []api.Node {
	var l []api.Node
pass:
	for range r.ahead() {
		switch {
		case r.stands("}"):
			break pass
		case r.take(";"):
			continue pass // that is none
		}
		l = append(l, r.statement())
	}
	return l
}

func (r *reader) statement() api.Node { return r.within(r.begun()) }

// begun is what reads the statement that begins here.
func (r *reader) begun() func() api.Node {
	switch r.said() {
	case "{":
		return r.block
	case "var":
		return r.variable
	case "if":
		return r.branches
	case "while":
		return r.loop
	case "for":
		return r.keys
	case "return":
		return r.result
	case "throw":
		return r.thrown
	case "try":
		return r.guarded
	case "break", "continue":
		return r.jump
	case "function":
		return r.declared
	}
	return r.plain
}

func (r *reader) block() api.Node {
	n := api.Node{Op: api.SBlock, Line: r.here().Line}
	r.must("{")
	n.L = r.statements()
	r.must("}")
	return n
}

// inner reads the statement that another one has within, as a block.
func (r *reader) inner() api.Node {
	if r.stands("{") {
		return r.block()
	}
	n := api.Node{Op: api.SBlock, Line: r.here().Line}
	if !r.take(";") {
		n.L = r.parts(r.statement)
	}
	return n
}

func (r *reader) variable() api.Node {
	n := r.opened(api.SVar)
	n.S = r.name()
	if r.take("=") {
		n.L = r.parts(r.expression)
	}
	r.end()
	return n
}

func (r *reader) branches() api.Node {
	n := r.opened(api.SIf)
	n.L = r.parts(r.bracketed, r.inner)
	if r.take("else") {
		n.L = append(n.L, r.inner())
	}
	return n
}

func (r *reader) loop() api.Node {
	n := r.opened(api.SWhile)
	n.L = r.parts(r.bracketed, r.inner)
	return n
}

// bracketed reads an expression between brackets.
func (r *reader) bracketed() api.Node {
	r.must("(")
	x := r.expression()
	r.must(")")
	return x
}

func (r *reader) keys() api.Node {
	n := r.opened(api.SForIn)
	r.must("(")
	if !r.take("var") {
		r.refuse(api.ErrOther) // another kind of loop, whatever stands here
	}
	n.S = r.name()
	r.must("in")
	x := r.expression()
	r.must(")")
	n.L = []api.Node{x, r.inner()}
	return n
}

func (r *reader) result() api.Node {
	n := r.opened(api.SRet)
	if !r.ended() && !r.here().NL && !r.stands(";", "}") {
		n.L = r.parts(r.expression)
	}
	r.end()
	return n
}

func (r *reader) thrown() api.Node {
	n := r.opened(api.SThrow)
	if r.here().NL { // no thing may begin here, so a `/` is none of a regular expression
		r.refuse(r.wrong(api.ErrOther))
	}
	n.L = r.parts(r.expression)
	r.end()
	return n
}

func (r *reader) guarded() api.Node {
	n := r.opened(api.STry)
	tried := r.block()
	r.must("catch", "(")
	n.S = r.name()
	r.must(")")
	n.L = []api.Node{tried, r.block()}
	return n
}

func (r *reader) jump() api.Node {
	op := api.SBreak
	if r.stands("continue") {
		op = api.SCont
	}
	n := r.opened(op)
	r.end()
	return n
}

func (r *reader) declared() api.Node {
	n := r.opened(api.SFunc)
	n.S = r.name()
	n.L = r.function()
	return n
}

// function reads a function's rest.
func (r *reader) function() []api.Node {
	r.must("(")
	l := r.listed(r.parameter)
	return append(l, r.block())
}

func (r *reader) parameter() api.Node {
	k := r.mustBe(api.TName)
	return api.Node{Op: api.XId, S: k.S, Line: k.Line}
}

func (r *reader) name() string { return r.mustBe(api.TName).S }

// plain reads a statement that is an expression.
func (r *reader) plain() api.Node {
	n := api.Node{Op: api.SExpr, Line: r.here().Line}
	named, from := r.of(api.TName), r.at
	n.L = r.parts(r.expression)
	if named && r.at == from+1 && r.stands(":") { // on the next line, too
		r.refuse(api.ErrLabel)
	}
	r.end()
	return n
}
