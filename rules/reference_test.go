package rules_test

import (
	"fmt"
	"slices"
	"testing"

	"gumshoe/api"
	"gumshoe/rules"
	"gumshoe/samples"
	"gumshoe/scope"
)

// spot is a tree of a resolved program, with the tree that it is a part of (-1 of the program), the how manieth of its parts it is, and its own parts.
type spot struct {
	api.Node
	parent, part int
	parts        []int
}

// reference answers by the chapter's words, one by one.
type reference struct {
	l    []spot // in Walk's order
	funs []api.Fun
}

func referenceOf(p api.Node) reference {
	funs, q, _, _ := scope.Resolve(p)
	r := reference{funs: funs}
	var add func(n api.Node, parent, part int) int
	add = func(n api.Node, parent, part int) int {
		here := len(r.l)
		r.l = append(r.l, spot{Node: n, parent: parent, part: part})
		for i, x := range n.L {
			at := add(x, here, i)
			r.l[here].parts = append(r.l[here].parts, at)
		}
		return here
	}
	add(q, -1, 0)
	return r
}

func isFunction(op int) bool { return op == api.SFunc || op == api.XFun }

// around is the function that a tree stands in.
func (r reference) around(k int) int {
	for at := r.l[k].parent; at >= 0; at = r.l[at].parent {
		if isFunction(r.l[at].Op) {
			return int(r.l[at].N)
		}
	}
	return 0
}

// ofFunction is the set of the place i of those of a function: its variables, this, ret, throw.
func (r reference) ofFunction(fun int, i int) int {
	n := len(r.l)
	for _, f := range r.funs[:fun] {
		n += len(f.Vars) + 3
	}
	return n + i
}

func (r reference) variable(n int64) int { return r.ofFunction(int(n/1000), int(n%1000)) }

func (r reference) this(fun int) int { return r.ofFunction(fun, len(r.funs[fun].Vars)) }

func (r reference) ret(fun int) int { return r.ofFunction(fun, len(r.funs[fun].Vars)+1) }

// throws is where a tree throws to.
func (r reference) throws(k int) int {
	for at := k; r.l[at].parent >= 0; at = r.l[at].parent {
		around := r.l[r.l[at].parent]
		if isFunction(around.Op) {
			break
		}
		if around.Op == api.STry && r.l[at].part == 0 {
			return r.variable(around.N)
		}
	}
	fun := r.around(k)
	return r.ofFunction(fun, len(r.funs[fun].Vars)+2)
}

func (r reference) isParameter(k int) bool {
	at := r.l[k].parent
	return at >= 0 && isFunction(r.l[at].Op) && r.l[k].part < len(r.l[at].parts)-1
}

func (r reference) isSet(k int) bool {
	at := r.l[k].parent
	return at >= 0 && r.l[at].Op == api.XSet && r.l[k].part == 0
}

// rules are those of a tree, without the function that they belong to.
func (r reference) rules(k int) []api.Rule {
	x := r.l[k]
	within := func(a, b int) api.Rule { return api.Rule{Kind: api.RSub, X: a, Y: b} }
	switch fun := r.around(k); x.Op {
	case api.XId:
		if !r.isParameter(k) && !r.isSet(k) {
			return []api.Rule{within(r.variable(x.N), k)}
		}
	case api.XThis:
		return []api.Rule{within(r.this(fun), k)}
	case api.XFun:
		return r.closure(k)
	case api.SFunc:
		return []api.Rule{{Kind: api.RFun, X: r.ofFunction(fun, slices.Index(r.funs[fun].Vars, x.S)), N: int(x.N)}}
	case api.XObj:
		l := []api.Rule{{Kind: api.RObj, X: k, M: int(x.N)}}
		for _, pair := range x.parts {
			l = append(l, api.Rule{Kind: api.RStore, X: k, S: r.l[pair].S, Y: pair + 1})
		}
		return l
	case api.XMem:
		if !r.isSet(k) {
			return []api.Rule{{Kind: api.RLoad, X: k + 1, S: x.S, Y: k}}
		}
	case api.XIdx:
		if !r.isSet(k) {
			return []api.Rule{{Kind: api.RLoadX, X: k + 1, Y: k}}
		}
	case api.XSet:
		return append(r.setting(x.parts[0], x.parts[1]), within(x.parts[1], k))
	case api.XAnd:
		return []api.Rule{within(x.parts[1], k)}
	case api.XOr:
		return []api.Rule{within(x.parts[0], k), within(x.parts[1], k)}
	case api.XCond:
		return []api.Rule{within(x.parts[1], k), within(x.parts[2], k)}
	case api.XCall, api.XNew:
		return r.call(k)
	case api.SVar:
		if len(x.parts) > 0 {
			return []api.Rule{within(k+1, r.variable(x.N))}
		}
	case api.SRet:
		if len(x.parts) > 0 {
			return []api.Rule{within(k+1, r.ret(fun))}
		}
	case api.SThrow:
		return []api.Rule{within(k+1, r.throws(k))}
	}
	return nil
}

func (r reference) closure(k int) []api.Rule {
	x := r.l[k]
	f := r.funs[x.N]
	l := []api.Rule{{Kind: api.RFun, X: k, N: int(x.N)}}
	if at := slices.Index(f.Vars, x.S); at >= 0 && !slices.Contains(f.Vars[:f.Params], x.S) {
		l = append(l, api.Rule{Kind: api.RFun, X: r.ofFunction(int(x.N), at), N: int(x.N)})
	}
	return l
}

func (r reference) setting(to, value int) []api.Rule {
	switch x := r.l[to]; x.Op {
	case api.XId:
		return []api.Rule{{Kind: api.RSub, X: value, Y: r.variable(x.N)}}
	case api.XMem:
		return []api.Rule{{Kind: api.RStore, X: to + 1, S: x.S, Y: value}}
	}
	return []api.Rule{{Kind: api.RAny, X: to + 1, Y: value}}
}

func (r reference) call(k int) []api.Rule {
	x := r.l[k]
	c := api.Rule{Kind: api.RNew, X: k + 1, L: x.parts[1:], Y: k, N: r.throws(k), M: int(x.N)}
	if x.Op == api.XCall {
		c.Kind, c.Z = api.RCall, -1
		if what := r.l[k+1]; what.Op == api.XMem || what.Op == api.XIdx {
			c.Z = k + 2
		}
	}
	return []api.Rule{c}
}

// system is all that the chapter says of a program.
func (r reference) system() api.System {
	s := api.System{Sets: r.ofFunction(len(r.funs), 0) + 9}
	for i, f := range r.funs {
		one := api.FunSets{Mark: f.Mark, This: r.this(i), Ret: r.ret(i), Throw: r.ret(i) + 1}
		for v := range f.Params {
			one.Params = append(one.Params, r.ofFunction(i, v))
		}
		s.Funs = append(s.Funs, one)
	}
	for k := range r.l {
		for _, rule := range r.rules(k) {
			rule.F = r.around(k)
			s.Rules = append(s.Rules, rule)
		}
	}
	return s
}

// alike tells whether two systems are: nil and empty lists are one.
func alike(a, b api.System) bool { return fmt.Sprintf("%+v", a) == fmt.Sprintf("%+v", b) }

// P12.1: the systems of programs at random, held against the chapter's words.
func TestAgainstReference(t *testing.T) {
	kinds, tried := map[int]int{}, 0
	for seed := range uint64(3000) {
		p := made(20, seed)
		_, s := ruled(t, p)
		r := referenceOf(p)
		if want := r.system(); !alike(s, want) {
			t.Fatalf("%s has the system\n%+v, not\n%+v", samples.Shown(p), s, want)
		}
		for _, rule := range s.Rules {
			kinds[rule.Kind]++
			if (rule.Kind == api.RCall || rule.Kind == api.RNew) && rule.N < s.Funs[rule.F].This {
				tried++ // what it throws goes to a variable
			}
		}
	}
	for kind := api.RObj; kind <= api.RNew; kind++ {
		if kinds[kind] < 3000 {
			t.Errorf("%d rules of the kind %d", kinds[kind], kind)
		}
	}
	if tried < 3000 {
		t.Errorf("%d calls within a try", tried)
	}
}

// P12.2: each number that is a variable's has its set, all others have none.
func TestVarSets(t *testing.T) {
	for seed := range uint64(60) {
		p := made(21, seed)
		funs, s := ruled(t, p)
		r := referenceOf(p)
		for n := -1100; n < len(funs)*1000+1100; n++ {
			want, e := 0, api.ErrArg
			if n >= 0 && n/1000 < len(funs) && n%1000 < len(funs[n/1000].Vars) {
				want, e = r.variable(int64(n)), api.OK
			}
			if set, got := rules.VarSet(funs, s, n); set != want || got != e {
				t.Fatalf("%s: the variable %d has the set %d, %d, not %d, %d", samples.Shown(p), n, set, got, want, e)
			}
		}
	}
}
