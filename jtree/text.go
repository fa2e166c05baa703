package jtree

import (
	"strconv"

	"gumshoe/api"
	"gumshoe/jlex"
)

// page is a text that grows, and how many blocks stand around its last line.
type page struct {
	text []byte
	in   int
}

func (w *page) put(l ...string) {
	for _, s := range l {
		w.text = append(w.text, s...)
	}
}

// mix puts expressions, with texts ahead of the first one, between each two, and behind the last one.
func (w *page) mix(l []api.Node, texts ...string) {
	for i, s := range texts {
		if i > 0 {
			w.expr(l[i-1])
		}
		w.put(s)
	}
}

// list puts expressions, parted by commas.
func (w *page) list(l []api.Node) {
	for i, x := range l {
		if i > 0 {
			w.put(", ")
		}
		w.expr(x)
	}
}

// led puts a text and the expression behind it: nothing, if that is not there.
func (w *page) led(s string, l []api.Node) {
	for _, x := range l {
		w.put(s)
		w.expr(x)
	}
}

func (w *page) expr(x api.Node) {
	switch x.Op {
	case api.XFun:
		w.put("(function")
		if x.S != "" {
			w.put(" ", x.S)
		}
		w.function(x.L)
		w.put(")")
	case api.XObj:
		w.put("({")
		w.list(x.L)
		w.put("})")
	case api.XPair:
		w.mix(x.L, jlex.Quote(x.S)+": ", "")
	case api.XMem:
		w.member(x)
	case api.XIdx:
		w.mix(x.L, "", "[", "]")
	case api.XCall:
		w.call(x.L)
	case api.XNew:
		w.construction(x.L)
	case api.XSet:
		w.mix(x.L, "(", " = ", ")")
	case api.XBin:
		w.mix(x.L, "(", " "+x.S+" ", ")")
	case api.XNot:
		w.mix(x.L, "(!", ")")
	case api.XNeg:
		w.mix(x.L, "(-", ")")
	case api.XAnd:
		w.mix(x.L, "(", " && ", ")")
	case api.XOr:
		w.mix(x.L, "(", " || ", ")")
	case api.XCond:
		w.mix(x.L, "(", " ? ", " : ", ")")
	default:
		w.put(leaf(x))
	}
}

// leaf is the text of an expression without parts.
func leaf(x api.Node) string {
	switch x.Op {
	case api.XNum:
		return strconv.FormatInt(x.N, 10)
	case api.XStr:
		return jlex.Quote(x.S)
	case api.XTrue:
		return "true"
	case api.XFalse:
		return "false"
	case api.XNull:
		return "null"
	case api.XUndef:
		return "undefined"
	case api.XThis:
		return "this"
	case api.XInput:
		return "input"
	}
	return x.S
}

func (w *page) member(x api.Node) {
	if x.L[0].Op == api.XNum { // a point right behind digits would be read as one of theirs
		w.mix(x.L, "(", ")."+x.S)
		return
	}
	w.mix(x.L, "", "."+x.S)
}

// call puts what is called, the first one, with its arguments.
func (w *page) call(l []api.Node) {
	w.expr(l[0])
	w.arguments(l[1:])
}

func (w *page) construction(l []api.Node) {
	if l[0].Op == api.XId {
		w.put("(new ", l[0].S)
	} else {
		w.mix(l[:1], "(new (", ")")
	}
	w.arguments(l[1:])
	w.put(")")
}

// arguments puts arguments, or parameters.
func (w *page) arguments(l []api.Node) {
	w.put("(")
	w.list(l)
	w.put(")")
}

// function puts a function's parameters and its block, the last one.
func (w *page) function(l []api.Node) {
	last := len(l) - 1
	w.arguments(l[:last])
	w.put(" ")
	w.braces(l[last])
}

// braces puts a block, whose last line is left open.
func (w *page) braces(b api.Node) {
	w.put("{\n")
	w.in++
	w.lines(b.L)
	w.in--
	w.indent()
	w.put("}")
}

func (w *page) lines(l []api.Node) {
	for _, n := range l {
		w.indent()
		w.statement(n)
		w.put("\n")
	}
}

func (w *page) indent() {
	for range w.in {
		w.put("  ")
	}
}

func (w *page) statement(n api.Node) {
	switch n.Op {
	case api.SVar:
		w.put("var ", n.S)
		w.led(" = ", n.L)
		w.put(";")
	case api.SExpr:
		w.mix(n.L, "", ";")
	case api.SBlock:
		w.braces(n)
	case api.SIf:
		w.branches(n.L)
	case api.SWhile:
		w.mix(n.L[:1], "while (", ") ")
		w.braces(n.L[1])
	case api.SForIn:
		w.mix(n.L[:1], "for (var "+n.S+" in ", ") ")
		w.braces(n.L[1])
	case api.SRet:
		w.put("return")
		w.led(" ", n.L)
		w.put(";")
	case api.SThrow:
		w.mix(n.L, "throw ", ";")
	case api.STry:
		w.put("try ")
		w.braces(n.L[0])
		w.put(" catch (", n.S, ") ")
		w.braces(n.L[1])
	case api.SBreak:
		w.put("break;")
	case api.SCont:
		w.put("continue;")
	case api.SFunc:
		w.put("function ", n.S)
		w.function(n.L)
	}
}

// branches puts what an SIf has: what it asks, the one block, the other one, if there is one.
func (w *page) branches(l []api.Node) {
	w.mix(l[:1], "if (", ") ")
	w.braces(l[1])
	if len(l) > 2 {
		w.put(" else ")
		w.braces(l[2])
	}
}
