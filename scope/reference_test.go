package scope_test

import (
	"fmt"
	"slices"
	"testing"

	"gumshoe/api"
	"gumshoe/jtree"
	"gumshoe/scope"
)

// spot is a tree of a program, with the spot (its place in Walk's order) of the tree that it is a part of: -1 of the program.
type spot struct {
	api.Node
	parent int
}

// spots are a program's trees, in Walk's order.
func spots(p api.Node) []spot {
	var l []spot
	var add func(n api.Node, parent int)
	add = func(n api.Node, parent int) {
		here := len(l)
		l = append(l, spot{n, parent})
		for _, part := range n.L {
			add(part, here)
		}
	}
	add(p, -1)
	return l
}

// reference answers by the chapter's words, one by one, with a search of its own for each.
type reference struct {
	l      []spot
	funs   []int      // the spots of the functions
	in     []int      // of each spot the function in which it stands: -1 for the program
	vars   [][]string // of each function
	params []int
}

func isFunction(op int) bool { return op == api.SFunc || op == api.XFun }

func referenceOf(p api.Node) reference {
	r := reference{l: spots(p), funs: []int{0}}
	for i, s := range r.l {
		if isFunction(s.Op) {
			r.funs = append(r.funs, i)
		}
	}
	for i := range r.l {
		r.in = append(r.in, r.around(i))
	}
	for f := range r.funs {
		l, params := r.variables(f)
		r.vars, r.params = append(r.vars, l), append(r.params, params)
	}
	return r
}

// number is a function's, by its spot.
func (r reference) number(at int) int { return slices.Index(r.funs, at) }

// around is the function in which a spot stands.
func (r reference) around(at int) int {
	for at = r.l[at].parent; at > 0 && !isFunction(r.l[at].Op); at = r.l[at].parent {
	}
	if at < 0 {
		return -1
	}
	return r.number(at)
}

func (r reference) isParameter(at int) bool {
	s := r.l[at]
	return s.Op == api.XId && isFunction(r.l[s.parent].Op)
}

// variables are a function's, and how many are parameters.
func (r reference) variables(f int) ([]string, int) {
	var l []string
	add := func(s string) {
		if !slices.Contains(l, s) {
			l = append(l, s)
		}
	}
	at := r.funs[f]
	for i := range r.l {
		if r.isParameter(i) && r.l[i].parent == at {
			add(r.l[i].S)
		}
	}
	params := len(l)
	if r.l[at].Op == api.XFun && r.l[at].S != "" {
		add(r.l[at].S)
	}
	for i, s := range r.l {
		if (s.Op == api.SVar || s.Op == api.SForIn || s.Op == api.STry || s.Op == api.SFunc) && r.in[i] == f {
			add(s.S)
		}
	}
	return l, params
}

// variable is the number of the variable of a spot's name: -1, if there is none.
func (r reference) variable(at int) int {
	for f := r.in[at]; f >= 0; f = r.in[r.funs[f]] {
		if i := slices.Index(r.vars[f], r.l[at].S); i >= 0 {
			return f*1000 + i
		}
	}
	return -1
}

// mark is that of a spot: of all that have one ahead of it, two a function, one of others.
func (r reference) mark(at int) int {
	m := 4
	for _, s := range r.l[:at] {
		switch s.Op {
		case api.SFunc, api.XFun:
			m += 2
		case api.XObj, api.XNew, api.XCall:
			m++
		}
	}
	return m
}

// inLoop tells whether a loop of its function stands around a spot.
func (r reference) inLoop(at int) bool {
	for i := r.l[at].parent; i >= 0 && !isFunction(r.l[i].Op); i = r.l[i].parent {
		if r.l[i].Op == api.SWhile || r.l[i].Op == api.SForIn {
			return true
		}
	}
	return false
}

// fault is the error of a spot.
func (r reference) fault(at int) api.Errno {
	switch r.l[at].Op {
	case api.SFunc, api.XFun:
		if f := r.number(at); f >= 500 || len(r.vars[f]) > 200 {
			return api.ErrMany
		}
	case api.XId:
		if !r.isParameter(at) && r.variable(at) < 0 {
			return api.ErrName
		}
	case api.SRet:
		if r.in[at] == 0 {
			return api.ErrJump
		}
	case api.SBreak, api.SCont:
		if !r.inLoop(at) {
			return api.ErrJump
		}
	}
	if at == 0 && len(r.vars[0]) > 200 {
		return api.ErrMany
	}
	return api.OK
}

// number in the resolved program.
func (r reference) resolved(at int) int64 {
	switch r.l[at].Op {
	case api.XId, api.SVar, api.SForIn, api.STry:
		return int64(r.variable(at))
	case api.SFunc, api.XFun:
		return int64(r.number(at))
	case api.XObj, api.XNew, api.XCall:
		return int64(r.mark(at))
	}
	return r.l[at].N
}

// check holds what a program is resolved to against the reference, and tells the error.
func check(t *testing.T, p api.Node) api.Errno {
	t.Helper()
	r := referenceOf(p)
	for i := range r.l {
		if e := r.fault(i); e != api.OK {
			wrong(t, p, r.l[i].Line, e)
			return e
		}
	}
	funs, q := resolved(t, p)
	if len(funs) != len(r.funs) {
		t.Fatalf("%d functions, not %d", len(funs), len(r.funs))
	}
	for f, at := range r.funs {
		want := api.Fun{Around: r.in[at], Name: r.l[at].S, Params: r.params[f], Vars: r.vars[f], Mark: r.mark(at)}
		if f == 0 {
			want.Mark = 0
		}
		if fmt.Sprintf("%+v", funs[f]) != fmt.Sprintf("%+v", want) {
			t.Fatalf("%s: the function %d is %+v, not %+v", shown(p), f, funs[f], want)
		}
	}
	at := 0
	jtree.Walk(q, func(n api.Node) bool {
		if n.N != r.resolved(at) {
			t.Errorf("%s: %d%s has the number %d, not %d", shown(p), n.Op, n.S, n.N, r.resolved(at))
		}
		at++
		return !t.Failed()
	})
	return api.OK
}

func shown(p api.Node) string {
	s, _ := jtree.Show(p)
	return s
}

// dice are numbers that follow from the one that they begin with, so that each run of the tests makes the same programs.
type dice uint64

// IntN is a number from 0 to below n.
func (d *dice) IntN(n int) int {
	*d += 0x9e3779b97f4a7c15
	x := uint64(*d)
	x = (x ^ x>>30) * 0xbf58476d1ce4e5b9
	x = (x ^ x>>27) * 0x94d049bb133111eb
	return int((x ^ x>>31) % uint64(n))
}

// maker makes programs, with names that are few, so that they meet.
type maker struct {
	dice
	names []string
	line  int
	rash  bool // are names and jumps where they have none?
}

func newMaker(seed uint64, rash bool) *maker {
	return &maker{dice(seed), []string{"a", "b", "c", "d", "e"}, 0, rash}
}

func (m *maker) pick() string { return m.names[m.IntN(len(m.names))] }

func (m *maker) node(op int, s string, l ...api.Node) api.Node {
	m.line += m.IntN(3)
	return api.Node{Op: op, S: s, L: l, Line: m.line}
}

// id is a name: one of the program's variables, if it must have one.
func (m *maker) id() api.Node {
	if m.rash && m.IntN(40) == 0 {
		return m.node(api.XId, "x")
	}
	return m.node(api.XId, m.pick())
}

func (m *maker) function(op int, s string, deep int) api.Node {
	n := m.node(op, s)
	for range m.IntN(4) {
		n.L = append(n.L, m.node(api.XId, m.pick()))
	}
	n.L = append(n.L, m.block(deep, false, true))
	return n
}

func (m *maker) exprs(count, deep int) []api.Node {
	var l []api.Node
	for range count {
		l = append(l, m.expr(deep-1))
	}
	return l
}

func (m *maker) expr(deep int) api.Node {
	kind := m.IntN(14)
	if deep <= 0 {
		kind %= 3
	}
	switch kind {
	case 0, 1:
		return m.id()
	case 2:
		return api.Node{Op: api.XNum, N: int64(m.IntN(1000))}
	case 3, 4:
		return m.function(api.XFun, []string{"", "", m.pick()}[m.IntN(3)], deep-1)
	case 5:
		n := m.node(api.XObj, "")
		for _, x := range m.exprs(m.IntN(3), deep-1) {
			n.L = append(n.L, m.node(api.XPair, m.pick(), x))
		}
		return n
	case 6:
		return m.node(api.XMem, m.pick(), m.exprs(1, deep)...)
	case 7:
		return m.node(api.XIdx, "", m.exprs(2, deep)...)
	case 8, 9:
		return m.node(api.XCall, "", m.exprs(1+m.IntN(3), deep)...)
	case 10:
		return m.node(api.XNew, "", m.exprs(1+m.IntN(3), deep)...)
	case 11:
		return m.node(api.XSet, "", m.id(), m.expr(deep-1))
	case 12:
		return m.node(api.XCond, "", m.exprs(3, deep)...)
	}
	return m.node(api.XBin, "+", m.exprs(2, deep)...)
}

func (m *maker) block(deep int, loop, fun bool) api.Node {
	b := m.node(api.SBlock, "")
	for range m.IntN(4) {
		b.L = append(b.L, m.statement(deep-1, loop, fun))
	}
	return b
}

func (m *maker) statement(deep int, loop, fun bool) api.Node {
	kind := m.IntN(13)
	if deep <= 0 {
		kind %= 4
	}
	switch {
	case kind == 0 && (loop || m.rash && m.IntN(30) == 0):
		return m.node(api.SBreak+m.IntN(2), "")
	case kind == 1 && (fun || m.rash && m.IntN(30) == 0):
		return m.node(api.SRet, "", m.exprs(m.IntN(2), deep)...)
	case kind == 2:
		return m.node(api.SVar, m.pick())
	case kind == 3:
		return m.node(api.SVar, m.pick(), m.expr(deep-1))
	case kind == 4:
		return m.node(api.SIf, "", m.expr(deep-1), m.block(deep, loop, fun), m.block(deep, loop, fun))
	case kind == 5:
		return m.node(api.SWhile, "", m.expr(deep-1), m.block(deep, true, fun))
	case kind == 6:
		return m.node(api.SForIn, m.pick(), m.expr(deep-1), m.block(deep, true, fun))
	case kind == 7:
		return m.node(api.STry, m.pick(), m.block(deep, loop, fun), m.block(deep, loop, fun))
	case kind == 8, kind == 9:
		return m.function(api.SFunc, m.pick(), deep-1)
	case kind == 10:
		return m.block(deep, loop, fun)
	case kind == 11:
		return m.node(api.SThrow, "", m.expr(deep-1))
	}
	return m.node(api.SExpr, "", m.expr(deep-1))
}

// program has all names as its variables, unless it is a rash one.
func (m *maker) program() api.Node {
	p := m.node(api.SBlock, "")
	for range 1 + m.IntN(6) {
		p.L = append(p.L, m.statement(12, false, false))
	}
	if !m.rash || m.IntN(3) > 0 {
		for _, s := range m.names {
			p.L = append(p.L, m.node(api.SVar, s))
		}
	}
	return p
}

// programs are some of them, small enough to be searched through.
func programs(t *testing.T, count int, rash bool) []api.Node {
	t.Helper()
	var l []api.Node
	for seed := uint64(0); len(l) < count; seed++ {
		p := newMaker(seed, rash).program()
		if n := len(spots(p)); n > 400 || !rash && n < 20 {
			continue
		}
		if !jtree.Right(p) {
			t.Fatalf("%+v is no program", p)
		}
		l = append(l, p)
	}
	return l
}

// P5.1: what programs are resolved to, held against the chapter's words.
func TestAgainstReference(t *testing.T) {
	met := map[api.Errno]int{}
	for _, p := range append(programs(t, 1500, false), programs(t, 1500, true)...) {
		met[check(t, p)]++
		if t.Failed() {
			t.Fatal(shown(p))
		}
	}
	if met[api.OK] < 1500 || met[api.ErrName] < 100 || met[api.ErrJump] < 30 {
		t.Error(met)
	}
}

// changed is a tree with other names of variables, and other lines, as they are told.
func changed(n api.Node, name func(s string) string, line func(n int) int) api.Node {
	switch n.Op {
	case api.XId, api.SVar, api.SForIn, api.STry, api.SFunc, api.XFun:
		if n.S != "" {
			n.S = name(n.S)
		}
	}
	n.Line = line(n.Line)
	n.L = slices.Clone(n.L)
	for i := range n.L {
		n.L[i] = changed(n.L[i], name, line)
	}
	return n
}

// P5.2: names that are written otherwise, all alike, and other lines.
func TestOtherNames(t *testing.T) {
	sameLine := func(n int) int { return n }
	for i, p := range append(programs(t, 300, false), programs(t, 300, true)...) {
		for _, name := range []func(s string) string{
			func(s string) string { return s },
			func(s string) string { return s + "_" },
			func(s string) string {
				return map[string]string{"a": "b", "b": "c", "c": "d", "d": "e", "e": "a", "x": "x"}[s]
			},
			func(s string) string {
				return map[string]string{"a": "x", "b": "eval", "c": "$", "d": "get", "e": "arguments", "x": "a"}[s]
			},
		} {
			line := func(n int) int { return 3*n - i }
			funs, r, at, e := scope.Resolve(p)
			otherFuns, other, otherAt, otherE := scope.Resolve(changed(p, name, line))
			for f := range funs {
				if funs[f].Name != "" {
					funs[f].Name = name(funs[f].Name)
				}
				for v := range funs[f].Vars {
					funs[f].Vars[v] = name(funs[f].Vars[v])
				}
			}
			if e != otherE || e != api.OK && line(at) != otherAt || fmt.Sprintf("%+v", funs) != fmt.Sprintf("%+v", otherFuns) {
				t.Fatalf("%s: %d in line %d is %d in line %d; %+v is %+v", shown(p), e, at, otherE, otherAt, funs, otherFuns)
			}
			want := changed(r, name, sameLine)
			if e == api.OK && (!jtree.Same(other, want) || !slices.Equal(lines(other), lines(changed(p, name, line)))) {
				t.Fatalf("%s: %+v is %+v", shown(p), want, other)
			}
		}
	}
}
