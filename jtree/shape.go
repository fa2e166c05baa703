package jtree

import (
	"math"

	"gumshoe/api"
	"gumshoe/jlex"
)

// shape is what a tree of an operation has: which text, which number at most, how many parts.
type shape struct {
	text        wording
	number      int64
	least, most int
}

func shapes() map[int]shape {
	return map[int]shape{
		api.XId:    {text: aName},
		api.XNum:   {number: api.MaxNum},
		api.XStr:   {text: anyText},
		api.XTrue:  {},
		api.XFalse: {},
		api.XNull:  {},
		api.XUndef: {},
		api.XThis:  {},
		api.XInput: {},
		api.XFun:   {text: nameOrNone, least: 1, most: api.MaxParts + 1}, // the block comes on top of the names
		api.XObj:   {most: api.MaxParts},
		api.XPair:  {text: anyText, least: 1, most: 1},
		api.XMem:   {text: nameOrWord, least: 1, most: 1},
		api.XIdx:   {least: 2, most: 2},
		api.XCall:  {least: 1, most: api.MaxParts},
		api.XNew:   {least: 1, most: api.MaxParts},
		api.XSet:   {least: 2, most: 2},
		api.XBin:   {text: aSign, least: 2, most: 2},
		api.XNot:   {least: 1, most: 1},
		api.XNeg:   {least: 1, most: 1},
		api.XAnd:   {least: 2, most: 2},
		api.XOr:    {least: 2, most: 2},
		api.XCond:  {least: 3, most: 3},
		api.SVar:   {text: aName, most: 1},
		api.SExpr:  {least: 1, most: 1},
		api.SBlock: {most: math.MaxInt},
		api.SIf:    {least: 2, most: 3},
		api.SWhile: {least: 2, most: 2},
		api.SForIn: {text: aName, least: 2, most: 2},
		api.SRet:   {most: 1},
		api.SThrow: {least: 1, most: 1},
		api.STry:   {text: aName, least: 2, most: 2},
		api.SBreak: {},
		api.SCont:  {},
		api.SFunc:  {text: aName, least: 1, most: api.MaxParts + 1},
	}
}

// sound tells whether a tree, and each part of it, has what its operation asks for.
func sound(p api.Node) bool {
	known, right := shapes(), true
pass:
	for n, level := range levels(p) {
		s, ok := known[n.Op]
		switch {
		case !ok, level > api.MaxHigh, !s.fits(n): // at the first fault, lest a tree without an end be gone through
			right = false
			break pass
		}
	}
	return right
}

// fits tells whether a tree has what the shape says, and parts of the right operations.
func (s shape) fits(n api.Node) bool {
	if !s.text.allows(n.S) || n.N < 0 || n.N > s.number || len(n.L) < s.least || len(n.L) > s.most {
		return false
	}
	for i, part := range n.L {
		if !wanted(n.Op, i, len(n.L)).has(part.Op) {
			return false
		}
	}
	return true
}

// wanted is what the part at the place i must be, of so many that a tree of an operation has.
func wanted(op int, i int, count int) group {
	switch op {
	case api.XObj:
		return pair
	case api.SBlock:
		return statement
	case api.XSet:
		if i == 0 {
			return target
		}
	case api.SIf, api.SWhile, api.SForIn:
		if i > 0 {
			return block
		}
	case api.XFun, api.SFunc:
		if i < count-1 {
			return parameter
		}
		fallthrough // behind the parameters stands a block
	case api.STry:
		return block
	}
	return expression
}

// group is which operations a part may be of.
type group int

const (
	expression group = iota
	statement
	block
	pair
	parameter
	target
)

func (g group) has(op int) bool {
	switch g {
	case statement:
		return op >= api.SVar && op <= api.SFunc
	case block:
		return op == api.SBlock
	case pair:
		return op == api.XPair
	case target:
		if op == api.XMem || op == api.XIdx {
			return true
		}
		fallthrough // a variable can be set, too
	case parameter:
		return op == api.XId
	}
	return op >= api.XId && op <= api.XCond && op != api.XPair
}

// wording is which texts a tree may have.
type wording int

const (
	noText wording = iota
	anyText
	aSign
	aName
	nameOrNone
	nameOrWord
)

func (w wording) allows(s string) bool {
	switch w {
	case anyText:
		return true
	case aSign:
		return oneOf(s, "+", "-", "*", "<", "<=", "===", "!==")
	case nameOrNone:
		return s == "" || jlex.IsName(s)
	case nameOrWord:
		if jlex.IsWord(s) {
			return true
		}
		fallthrough
	case aName:
		return jlex.IsName(s)
	}
	return s == ""
}

func oneOf(s string, l ...string) bool {
	for _, t := range l {
		if s == t {
			return true
		}
	}
	return false
}
