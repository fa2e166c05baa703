package samples

import (
	"slices"
	"strconv"
	"strings"

	"gumshoe/api"
)

// Base is a system of the sets 0 to 19 and of three functions; the last nine sets are 32 to 40.
func Base() api.System {
	return api.System{Sets: 41, Funs: []api.FunSets{
		{This: 20, Ret: 21, Throw: 22},
		{Mark: 4, Params: []int{23, 24}, This: 25, Ret: 26, Throw: 27},
		{Mark: 6, Params: []int{28}, This: 29, Ret: 30, Throw: 31},
	}}
}

// With is Base with rules, parted by `; `.
func With(text string) api.System {
	s := Base()
	for rule := range strings.SplitSeq(text, "; ") {
		s.Rules = append(s.Rules, Rule(rule))
	}
	return s
}

// notes are the words of a rule, or of a fact.
type notes []string

// numbers are those from a place on.
func (l notes) numbers(from int) []int {
	var out []int
	for _, word := range l[from:] {
		n, _ := strconv.Atoi(word)
		out = append(out, n)
	}
	return out
}

func (l notes) number(at int) int { return l[at : at+1].numbers(0)[0] }

// Rule reads a rule: `1:`, if it is that function's, its kind, its numbers and key, of calls the arguments behind them.
func Rule(text string) api.Rule {
	l := notes(strings.Fields(text))
	r := api.Rule{}
	if fun, ok := strings.CutSuffix(l[0], ":"); ok {
		r.F, _ = strconv.Atoi(fun)
		l = l[1:]
	}
	r.Kind = 1 + slices.Index([]string{"obj", "fun", "sub", "load", "loadx", "store", "any", "call", "new"}, l[0])
	r.X = l.number(1)
	switch r.Kind {
	case api.RObj:
		r.M = l.number(2)
	case api.RFun:
		r.N = l.number(2)
	case api.RLoad, api.RStore:
		r.S, r.Y = l[2], l.number(3)
	case api.RCall: // what, this, where what it gives and throws comes to, its mark
		r.Z, r.Y, r.N, r.M, r.L = l.number(2), l.number(3), l.number(4), l.number(5), l.numbers(6)
	case api.RNew: // likewise, without a this
		r.Y, r.N, r.M, r.L = l.number(2), l.number(3), l.number(4), l.numbers(5)
	default:
		r.Y = l.number(2)
	}
	return r
}

// kinds are the words of facts, kind by kind.
func kinds() []string {
	return []string{api.FVar: "var", api.FThis: "this", api.FProp: "prop", api.FProto: "behind", api.FCall: "call", api.FEnter: "enter", api.FThrown: "thrown", api.FAny: "any", api.FIn: "in"}
}

// Facts reads facts, parted by `; `: each one's kind, A, of a key that one, and, but of what is entered, B.
func Facts(text string) []api.Fact {
	var out []api.Fact
	for fact := range strings.SplitSeq(text, "; ") {
		if fact == "" {
			continue
		}
		l := notes(strings.Fields(fact))
		f := api.Fact{Kind: slices.Index(kinds(), l[0]), A: l.number(1)}
		switch f.Kind {
		case api.FEnter:
		case api.FProp:
			f.S, f.B = l[2], l.number(3)
		default:
			f.B = l.number(2)
		}
		out = append(out, f)
	}
	return out
}

// Told is the text of facts that Facts reads.
func Told(facts ...api.Fact) string {
	var out []string
	for _, f := range facts {
		l := []string{kinds()[f.Kind], strconv.Itoa(f.A)}
		if f.Kind == api.FProp {
			l = append(l, f.S)
		}
		if f.Kind != api.FEnter {
			l = append(l, strconv.Itoa(f.B))
		}
		out = append(out, strings.Join(l, " "))
	}
	return strings.Join(out, "; ")
}
