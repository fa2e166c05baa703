package alias_test

import (
	"slices"
	"strconv"
	"testing"

	"gumshoe/alias"
	"gumshoe/api"
	"gumshoe/samples"
)

// deep is a path of 20 keys.
func deep() api.Path { return api.Path{Keys: slices.Repeat([]string{"p"}, api.MaxKeys)} }

// rise are so many numbers from 0 on.
func rise(count int) []int {
	var l []int
	for n := range count {
		l = append(l, n)
	}
	return l
}

// P16.1, P16.2: many marks one behind the other, each with a mark of its own at the key.
func TestLongChain(t *testing.T) {
	const count = 60000
	k := solved(t, samples.Read("var a"))
	k.l = []api.Fact{{Kind: api.FIn, A: k.s.Funs[0].This - 1, B: count - 1}}
	for n := range count {
		k.l = append(k.l, api.Fact{Kind: api.FProto, A: n, B: max(n-1, 0)}, api.Fact{Kind: api.FProp, A: n, S: "p", B: count - 1 - n}, api.Fact{Kind: api.FProp, A: n, S: "q", B: n + 1})
	}
	want := rise(count)
	loads(t, k.l, []int{count - 1}, "p", want)
	loads(t, k.l, want, "p", want)
	k.points(t, deep(), want)
}

// P16.1: many marks behind each of many, each told once.
func TestManyBehind(t *testing.T) {
	const count = 700
	var l []api.Fact
	for n := range count {
		for m := range count {
			l = append(l, api.Fact{Kind: api.FProto, A: n, B: m}, api.Fact{Kind: api.FAny, A: n, B: m})
		}
	}
	loads(t, l, []int{5}, "p", rise(count))
	loads(t, l, rise(count), "p", rise(count))
}

// P16.1, P16.2: facts of many other keys and sets cost no more than a look.
func TestManyOthers(t *testing.T) {
	k := solved(t, samples.Read("var a = {}; a.p = a"))
	for n := range 500000 {
		k.l = append(k.l, api.Fact{Kind: api.FIn, A: n, B: n + 100}, api.Fact{Kind: api.FProp, A: 4, S: "p" + strconv.Itoa(n), B: n + 5})
	}
	k.l = slices.DeleteFunc(k.l, func(f api.Fact) bool { return f.Kind == api.FIn && f.B != 4 && f.A == k.s.Funs[0].This-1 })
	k.points(t, deep(), []int{4})
	k.points(t, path("0 p p499999"), []int{500004})
	if got := alias.Load(k.l, rise(500000), "p7"); !slices.Equal(got, []int{12}) {
		t.Error(got)
	}
}
