package jread

import (
	"strconv"

	"gumshoe/api"
)

func (r *reader) expression() api.Node { return r.within(r.assigned) }

// assigned reads a choice, and what it is set to, if it is.
func (r *reader) assigned() api.Node {
	x := r.choice()
	if !r.target(x) || !r.take("=") {
		return x
	}
	return tree(api.XSet, "", x, r.expression())
}

// target tells whether what was read just now can be set.
func (r *reader) target(x api.Node) bool {
	switch x.Op {
	case api.XId, api.XMem, api.XIdx:
		return !r.behind(")") // by itself none of these ends so: it stands between brackets
	}
	return false
}

func (r *reader) choice() api.Node {
	x := r.joined(1)
	if !r.take("?") {
		return x
	}
	one := r.expression()
	r.must(":")
	return tree(api.XCond, "", x, one, r.expression())
}

// joined reads what signs join that bind at least so tightly, from the left.
func (r *reader) joined(least int) api.Node {
	x := r.signed()
pass:
	for k := range r.ahead() {
		op, tight := r.joint()
		if tight < least {
			break pass
		}
		r.next()
		y := r.joined(tight + 1)
		x = tree(op, "", x, y)
		if op == api.XBin {
			x.S = k.S
		}
	}
	return x
}

// joint is which operation the sign here joins its sides by, and how tightly it binds them: 0, if it joins none.
func (r *reader) joint() (int, int) {
	switch {
	case r.stands("||"):
		return api.XOr, 1
	case r.stands("&&"):
		return api.XAnd, 2
	case r.stands("===", "!=="):
		return api.XBin, 3
	case r.stands("<", "<="):
		return api.XBin, 4
	case r.stands("+", "-"):
		return api.XBin, 5
	case r.stands("*"):
		return api.XBin, 6
	}
	return 0, 0
}

func (r *reader) signed() api.Node {
	var op int
	switch r.said() {
	case "!":
		op = api.XNot
	case "-":
		op = api.XNeg
	default:
		return r.chain()
	}
	n := r.opened(op)
	n.L = []api.Node{r.within(r.signed)}
	return n
}

func (r *reader) chain() api.Node {
	if r.stands("new") {
		return r.tails(r.construction(), ".", "[", "(")
	}
	return r.tails(r.thing(), ".", "[", "(")
}

func (r *reader) construction() api.Node {
	n := r.opened(api.XNew)
	n.L = []api.Node{r.tails(r.thing(), ".", "[")}
	if r.take("(") {
		n.L = append(n.L, r.listed(r.expression)...)
	}
	return n
}

// tails reads what stands behind a tree and begins with these signs.
func (r *reader) tails(x api.Node, signs ...string) api.Node {
pass:
	for k := range r.ahead() {
		if !r.take(signs...) {
			break pass
		}
		switch k.S {
		case ".":
			x = tree(api.XMem, r.mustBe(api.TName, api.TWord).S, x)
		case "[":
			x = tree(api.XIdx, "", x, r.expression())
			r.must("]")
		case "(":
			x = tree(api.XCall, "", x, r.listed(r.expression)...)
		}
	}
	return x
}

func (r *reader) thing() api.Node {
	switch k := r.here(); k.Kind {
	case api.TName:
		if k.S == "eval" || k.S == "arguments" {
			r.refuse(api.ErrEval)
		}
		return r.leaf(api.XId, k.S, 0)
	case api.TNum:
		return r.leaf(api.XNum, "", k.N)
	case api.TText:
		return r.leaf(api.XStr, k.S, 0)
	}
	return r.worded()
}

func (r *reader) leaf(op int, s string, n int64) api.Node {
	x := r.opened(op)
	x.S, x.N = s, n
	return x
}

// worded reads a thing that begins with a word, or a sign.
func (r *reader) worded() api.Node {
	switch r.said() {
	case "true":
		return r.opened(api.XTrue)
	case "false":
		return r.opened(api.XFalse)
	case "null":
		return r.opened(api.XNull)
	case "undefined":
		return r.opened(api.XUndef)
	case "this":
		return r.opened(api.XThis)
	case "input":
		return r.opened(api.XInput)
	case "(":
		return r.bracketed()
	case "function":
		return r.closure()
	case "{":
		return r.object()
	}
	r.refuse(r.wrong(api.ErrRegex))
	return api.Node{}
}

func (r *reader) closure() api.Node {
	n := r.opened(api.XFun)
	if r.of(api.TName) {
		n.S = r.name()
	}
	n.L = r.function()
	return n
}

func (r *reader) object() api.Node {
	n := r.opened(api.XObj)
pass:
	for range r.ahead() {
		if r.stands("}") {
			break pass
		}
		n.L = append(n.L, r.pair())
		if !r.take(",") {
			break pass
		}
	}
	r.must("}")
	return n
}

func (r *reader) pair() api.Node {
	k := r.mustBe(api.TName, api.TWord, api.TText, api.TNum)
	n := api.Node{Op: api.XPair, S: k.S, Line: k.Line}
	if k.Kind == api.TNum {
		n.S = strconv.FormatInt(k.N, 10)
	}
	accessor := k.Kind == api.TName && (k.S == "get" || k.S == "set")
	if accessor && r.of(api.TName, api.TWord, api.TText, api.TNum) {
		r.refuse(api.ErrGetter)
	}
	r.must(":")
	n.L = r.parts(r.expression)
	return n
}
