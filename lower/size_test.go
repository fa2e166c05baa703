package lower_test

import (
	"fmt"
	"testing"

	"gumshoe/api"
)

func object() api.Node { return node(api.XObj, "") }

func alone(x api.Node) api.Node { return node(api.SExpr, "", x) }

func block(l ...api.Node) api.Node { return node(api.SBlock, "", l...) }

// times are so many of the same tree.
func times(count int, n api.Node) []api.Node {
	var l []api.Node
	for range count {
		l = append(l, n)
	}
	return l
}

// count is how many parts a program has.
func count(n api.Node) int {
	sum := 1
	for _, part := range n.L {
		sum += count(part)
	}
	return sum
}

// filled is a program of at most 1500 parts, with as many of a statement as go within what is around.
func filled(around func(l ...api.Node) api.Node, s api.Node) api.Node {
	return around(times((1500-count(around()))/count(s), s)...)
}

// tries are so many within each other.
func tries(high int, l ...api.Node) api.Node {
	b := block(l...)
	for range high {
		b = block(node(api.STry, "e", b, block()))
	}
	return b
}

// P10.1: no program of 1500 parts has too long a proc, be they what they may.
func TestManyParts(t *testing.T) {
	id, no := node(api.XId, "a"), node(api.XNull, "")
	arounds := []func(l ...api.Node) api.Node{
		block,
		func(l ...api.Node) api.Node { return block(node(api.SWhile, "", no, tries(45, l...))) },
		func(l ...api.Node) api.Node { return block(node(api.SForIn, "a", no, tries(45, l...))) },
		func(l ...api.Node) api.Node {
			b := block(l...)
			for range 14 {
				b = block(node(api.SForIn, "a", no, tries(1, node(api.SWhile, "", no, b))))
			}
			return b
		},
		func(l ...api.Node) api.Node { return block(node(api.SFunc, "f", block(l...))) },
		func(l ...api.Node) api.Node {
			f := block(l...)
			for i := range 30 {
				f = block(alone(node(api.XFun, fmt.Sprintf("f%d", i), f)))
			}
			return f
		},
	}
	leaves := block(node(api.SIf, "", no, block(node(api.SBreak, "")), block(node(api.SCont, ""))))
	statements := []api.Node{
		alone(object()), node(api.SVar, "a", no), node(api.SThrow, "", no), node(api.SBreak, ""), node(api.SCont, ""), block(), leaves,
		node(api.STry, "e", block(), block()), node(api.SForIn, "a", no, block(node(api.SBreak, ""))), node(api.SWhile, "", no, leaves),
		node(api.SWhile, "", no, block(node(api.STry, "e", leaves, leaves))), alone(node(api.XAnd, "", no, node(api.XOr, "", no, node(api.XCond, "", no, no, no)))),
		alone(node(api.XCall, "", times(200, object())...)), alone(node(api.XNew, "", times(100, object())...)), alone(node(api.XObj, "", times(200, node(api.XPair, "p", no))...)),
		alone(node(api.XSet, "", node(api.XIdx, "", no, no), node(api.XCall, "", node(api.XIdx, "", no, no), node(api.XSet, "", node(api.XMem, "p", no), no)))),
		node(api.SFunc, "a", id, block(alone(id))), alone(node(api.XFun, "b", block(node(api.SRet, "")))),
	}
	for at, around := range arounds {
		for _, s := range statements {
			p := filled(around, s)
			inLoop := at == 1 || at == 2 || at == 3
			if leaving := s.Op == api.SBreak || s.Op == api.SCont || s.Op == api.SBlock; leaving && !inLoop {
				continue
			}
			if n := count(p); n > 1500 || n < 1100 {
				t.Fatalf("%d parts of the statement %d in %d", n, s.Op, at)
			}
			holds(t, p)
		}
	}
}

// P10.1: the highest tree with the most parts has registers enough.
func TestManyRegisters(t *testing.T) {
	for op, levels := range map[int]int{api.XCall: 97, api.XNew: 97, api.XObj: 48} {
		x := object()
		for range levels {
			l := append(times(199, node(api.XNull, "")), x)
			for i := range l {
				if op == api.XObj {
					l[i] = node(api.XPair, "p", l[i])
				}
			}
			x = node(op, "", l...)
		}
		lowered(t, block(alone(x)))
	}
}

// P10.1: a proc of 60000 instructions is not too long, one of more is, in whichever function, and be there so few in all others; the line is 0.
func TestTooLong(t *testing.T) {
	const last = 1 // IRet
	fits, more := times(api.MaxIns-last, alone(object())), times(api.MaxIns-last+1, alone(object()))
	f := func(l []api.Node) api.Node { return node(api.SFunc, "f", block(l...)) }
	var empty []api.Node
	for _, c := range []struct {
		p    api.Node
		long bool
	}{
		{block(fits...), false},
		{block(more...), true},
		{block(f(fits)), false},
		{block(f(more)), true},
		{block(f(empty), f(more), f(empty)), true},
		{block(f(fits), alone(node(api.XFun, "", block(fits...))), f(fits)), false},
		{block(append(times(70, node(api.SBlock, "", fits[:1000]...)), f(empty))...), true},
		{block(f(fits[:40000]), f(fits[:40000])), false},
	} {
		c.p.Line = 9
		if c.long {
			refused(t, c.p, 0, api.ErrMany)
		} else {
			lowered(t, c.p)
		}
	}
}

// P10.1: marks that no right code has make no code either: the procs are not too long.
func TestTooManyMarks(t *testing.T) {
	call := alone(node(api.XCall, "", append([]api.Node{node(api.XThis, "")}, times(199, object())...)...)) // 200 marks
	var p api.Node
	for _, c := range []struct {
		more int
		e    api.Errno
	}{
		{0, api.OK},
		{1, api.ErrMany},
	} {
		p = block()
		for range 20 {
			p.L = append(p.L, node(api.SFunc, "f", block(times(249, call)...)))
		}
		// 20 functions have two marks each, and 249 times 200 within; the first mark is 4
		left := api.MaxMark - 3 - 20*(2+249*200) + c.more
		for range left {
			p.L = append(p.L, alone(object()))
		}
		if c.e == api.OK {
			lowered(t, p)
		} else {
			refused(t, p, 0, c.e)
		}
	}
}
