package least_test

import (
	"fmt"
	"slices"
	"testing"

	"gumshoe/api"
	"gumshoe/least"
	"gumshoe/samples"
)

// closedFrom are facts, with all that rounds add to them till there is no more.
func closedFrom(t *testing.T, s api.System, l []api.Fact) []api.Fact {
	t.Helper()
	for {
		closed, e := least.Closed(s, l)
		next, f := least.Round(s, l)
		if e != api.OK || f != api.OK || closed != (len(next) == len(l)) || !least.Right(s, next) || !least.Within(l, next) || least.Within(next, l) != closed {
			t.Fatalf("%+v: %s: %v, %d, %d, and then %s", s, samples.Told(l...), closed, e, f, samples.Told(next...))
		}
		if closed {
			return l
		}
		l = next
	}
}

// P14.2: a system's facts are closed, and rounds from nothing on come to them.
func TestLeast(t *testing.T) {
	for seed := range uint64(1500) {
		s := made(48, seed)
		l := solved(s)
		if closed, e := least.Closed(s, l); !closed || e != api.OK {
			t.Fatalf("%+v: %d", s, e)
		}
		if got := closedFrom(t, s, nil); !slices.Equal(got, l) {
			t.Fatalf("%+v: %s are not %s", s, samples.Told(got...), samples.Told(l...))
		}
	}
	for seed := range uint64(200) {
		s := program(49, seed)
		if got := closedFrom(t, s, nil); !slices.Equal(got, solved(s)) {
			t.Fatalf("%+v: %s", s, samples.Told(got...))
		}
	}
}

// P14.2: each closed list has all of a system's facts; any of these, with rounds, come to no others.
func TestClosed(t *testing.T) {
	for seed := range uint64(1500) {
		g, s := generator(50, seed), made(50, seed)
		l := solved(s)
		if all := closedFrom(t, s, facts(g, s)); !least.Within(l, all) {
			t.Fatalf("%+v: %s is closed, and has not %s", s, samples.Told(all...), samples.Told(minus(l, all)...))
		}
		some := slices.DeleteFunc(slices.Clone(l), func(api.Fact) bool { return g.IntN(2) == 0 })
		if all := closedFrom(t, s, some); !slices.Equal(all, l) {
			t.Fatalf("%+v: %s comes to %s", s, samples.Told(some...), samples.Told(all...))
		}
	}
}

// More facts have rounds of no fewer.
func TestMoreFacts(t *testing.T) {
	for seed := range uint64(1500) {
		g, s := generator(51, seed), made(51, seed)
		few := facts(g, s)
		many := sorted(slices.Concat(few, facts(g, s)))
		a, _ := least.Round(s, few)
		b, _ := least.Round(s, many)
		if !least.Within(a, b) {
			t.Fatalf("%+v: %s asks for more than %s", s, samples.Told(few...), samples.Told(many...))
		}
	}
}

// The order of rules makes no difference, nor do rules that come twice, nor does the order in which maps are gone through.
func TestOrder(t *testing.T) {
	for seed := range uint64(300) {
		g, s := generator(52, seed), made(52, seed)
		l := facts(g, s)
		want, _ := least.Round(s, l)
		for range 3 {
			s.Rules = append(s.Rules, s.Rules[:len(s.Rules)/2]...)
			g.Shuffle(len(s.Rules), func(i, j int) { s.Rules[i], s.Rules[j] = s.Rules[j], s.Rules[i] })
			if got, _ := least.Round(s, l); !slices.Equal(got, want) {
				t.Fatalf("%+v: %v, and then %v", s, want, got)
			}
		}
	}
}

// P14.1: many facts, of few sets and of many, at keys, and behind one another.
func TestMany(t *testing.T) {
	s := samples.With("sub 0 1; sub 1 2; any 3 3; store 4 p 0; load 5 p 6; loadx 5 7; load 5 q 8")
	l := []api.Fact{{Kind: api.FEnter}}
	for m := range 20000 {
		l = append(l, api.Fact{Kind: api.FProto, A: 1000 + m, B: 1001 + m}, api.Fact{Kind: api.FIn, B: 50 * m}, api.Fact{Kind: api.FIn, A: 1, B: 50 * m})
	}
	for m := range 1000 {
		l = append(l, api.Fact{Kind: api.FIn, A: 3, B: m})
	}
	l = append(l, samples.Facts("in 4 21000; in 5 1000; any 20000 7; prop 21000 q 8")...)
	rounds := 0
	for l = sorted(l); ; rounds++ {
		closed, e := least.Closed(s, l)
		if e != api.OK {
			t.Fatal(e)
		}
		if closed {
			break
		}
		l, _ = least.Round(s, l)
	}
	// of each of 20000: in 0, 1 and 2, behind, at p, in 6 and 7; any; in 3; those that are added singly; besides, in 6, 7, 8: 7, in 7, 8: 8; always
	if want := 7*20000 + 1000000 + 1000 + 4 + 5 + 6; rounds != 2 || len(l) != want {
		t.Errorf("%d rounds, %d facts, not %d", rounds, len(l), want)
	}
}

// P14.1: rules that come ever so often cost no more.
func TestManyRules(t *testing.T) {
	s := samples.Base()
	for range 100000 {
		s.Rules = append(s.Rules, samples.Rule("any 0 0"), samples.Rule("sub 0 1"))
	}
	l := samples.Facts("enter 0")
	for m := range 100 {
		l = append(l, api.Fact{Kind: api.FIn, B: 4 + m})
	}
	got, e := least.Round(s, l)
	if e != api.OK || len(got) != 6+200+10000 {
		t.Error(fmt.Sprint(len(got), e))
	}
}
