package heap_test

import (
	"fmt"
	"slices"
	"testing"

	"gumshoe/api"
	"gumshoe/heap"
)

// P7.2: the first object of a chain that has the key is asked, be its value VUndef; what is behind another one is not.
func TestGetGoesUp(t *testing.T) {
	h := heap.New()
	top := alloc(t, h, -1)
	middle := alloc(t, h, top)
	low := alloc(t, h, middle)
	beside := alloc(t, h, middle)
	put(t, h, top, "a", num(1))
	own(t, h, top, "a", num(1), true)
	get(t, h, top, "a", num(1), true)
	for _, p := range []int{middle, low, beside} {
		own(t, h, p, "a", undef, false)
		get(t, h, p, "a", num(1), true)
	}

	put(t, h, low, "a", text("low"))
	get(t, h, low, "a", text("low"), true)
	get(t, h, beside, "a", num(1), true)
	get(t, h, middle, "a", num(1), true)
	own(t, h, top, "a", num(1), true)

	put(t, h, middle, "a", undef)
	get(t, h, middle, "a", undef, true)
	own(t, h, middle, "a", undef, true)
	get(t, h, beside, "a", undef, true)
	get(t, h, low, "a", text("low"), true)
	get(t, h, top, "a", num(1), true)

	put(t, h, low, "b", yes)
	get(t, h, middle, "b", undef, false)
	get(t, h, beside, "b", undef, false)
	get(t, h, low, "call", undef, false) // nothing is behind top
}

// P7.2: a key that is put behind an object later on is got, too.
func TestGetFollowsLaterPuts(t *testing.T) {
	h := heap.New()
	f := alloc(t, h, api.PlaceFunction)
	o := alloc(t, h, api.PlaceObject)
	get(t, h, f, "p", undef, false)
	put(t, h, api.PlaceObject, "p", num(1))
	get(t, h, f, "p", num(1), true)
	get(t, h, o, "p", num(1), true)
	get(t, h, api.PlaceCall, "p", num(1), true)
	put(t, h, api.PlaceFunction, "p", num(2))
	get(t, h, f, "p", num(2), true)
	get(t, h, o, "p", num(1), true)
	put(t, h, api.PlaceFunction, "call", num(3))
	get(t, h, f, "call", num(3), true)
}

// P7.3: keys keep the place at which they were first put.
func TestKeysInOrder(t *testing.T) {
	h := heap.New()
	p := alloc(t, h, api.PlaceFunction)
	for _, key := range []string{"z", "a", "", "10", "9"} {
		put(t, h, p, key, num(1))
	}
	keys(t, h, p, "z", "a", "", "10", "9")
	for _, key := range []string{"9", "z", "b", "a", "b"} {
		put(t, h, p, key, undef)
	}
	keys(t, h, p, "z", "a", "", "10", "9", "b")
	all(t, h, p, "z", "a", "", "10", "9", "b", "call", "apply")
	own(t, h, p, "z", undef, true)
	own(t, h, p, "", num(1), true)
}

// P7.3: of a chain each key is told once, where it is met first.
func TestAllOnce(t *testing.T) {
	h := heap.New()
	top := alloc(t, h, api.PlaceObject)
	middle := alloc(t, h, top)
	empty := alloc(t, h, middle)
	low := alloc(t, h, empty)
	for p, l := range map[int][]string{api.PlaceObject: {"d", "o", "a"}, top: {"a", "b", "c"}, middle: {"c", "d", "a"}, low: {"e", "c", "f"}} {
		for _, key := range l {
			put(t, h, p, key, num(int64(p)))
		}
	}
	all(t, h, api.PlaceObject, "d", "o", "a")
	all(t, h, top, "a", "b", "c", "d", "o")
	all(t, h, middle, "c", "d", "a", "b", "o")
	all(t, h, empty, "c", "d", "a", "b", "o")
	all(t, h, low, "e", "c", "f", "d", "a", "b", "o")
	all(t, h, api.PlaceCall, "call", "apply", "d", "o", "a")
	keys(t, h, empty)
	keys(t, h, low, "e", "c", "f")
	alone := alloc(t, h, -1)
	all(t, h, alone)
	put(t, h, alone, "x", null)
	all(t, h, alone, "x")
	all(t, h, low, "e", "c", "f", "d", "a", "b", "o")
}

// R3: what Keys and All answer is new memory, spare room too.
func TestListsAreNew(t *testing.T) {
	h := heap.New()
	p := alloc(t, h, api.PlaceFunction)
	for i := range 5 {
		put(t, h, p, fmt.Sprint("k", i), num(int64(i)))
	}
	was := told(h)
	for _, of := range []func(p int) []string{h.Keys, h.All} {
		a, b := of(p), of(p)
		for i := range a[:cap(a)] {
			a[:cap(a)][i] = "scribbled"
		}
		if slices.Contains(b, "scribbled") || slices.Contains(b[:cap(b)], "scribbled") {
			t.Error("two answers share memory")
		}
		if told(h) != was {
			t.Fatal("an answer shares memory with the heap")
		}
		b = append(of(p), "more")
		put(t, h, p, "k5", num(5))
		if b[len(b)-1] != "more" {
			t.Error("the heap writes into an answer")
		}
		was = told(h)
	}
	keys(t, h, p, "k0", "k1", "k2", "k3", "k4", "k5")
	own(t, h, p, "more", undef, false)
}

// P7.2, P7.3: a chain of all the objects that a heap may have.
func TestLongChain(t *testing.T) {
	h := heap.New()
	put(t, h, api.PlaceObject, "first", num(7))
	p, want := api.PlaceFunction, []string{"call", "apply", "first"}
	for h.Len() < api.MaxObjs {
		p = alloc(t, h, p)
		key := fmt.Sprint("k", p)
		put(t, h, p, key, ref(p))
		put(t, h, p, "same", ref(p))
		want = append([]string{key}, want...)
	}
	want = slices.Insert(want, 1, "same")
	all(t, h, p, want...)
	get(t, h, p, "first", num(7), true)
	get(t, h, p, "call", ref(api.PlaceCall), true)
	get(t, h, p, "k4", ref(4), true)
	get(t, h, p, "same", ref(p), true)
	get(t, h, p, "none", undef, false)
	get(t, h, 4, "k5", undef, false)
}

// P7.3: many keys of one object, and of the one behind it.
func TestManyKeys(t *testing.T) {
	h := heap.New()
	top := alloc(t, h, -1)
	low := alloc(t, h, top)
	var mine, both []string
	for i := range 100000 {
		key := fmt.Sprint(i * 7 % 100000)
		mine = append(mine, key)
		put(t, h, low, key, num(int64(i)))
		put(t, h, top, fmt.Sprint(i+50000), num(int64(-i)))
	}
	both = append(both, mine...)
	for i := range 50000 {
		both = append(both, fmt.Sprint(i+100000))
	}
	keys(t, h, low, mine...)
	all(t, h, low, both...)
	for i, key := range mine {
		own(t, h, low, key, num(int64(i)), true)
	}
	get(t, h, low, "149999", num(-99999), true)
}

// P7.4: what is behind an object was there ahead of it.
func TestNoChainComesBack(t *testing.T) {
	h := heap.New()
	x := uint32(7)
	for h.Len() < 300 {
		x = x*1664525 + 1013904223
		alloc(t, h, int(x>>16)%(h.Len()+1)-1)
	}
	for p := range h.Len() {
		o, e := h.Obj(p)
		for steps := 0; o.Proto != -1; steps++ {
			if o.Proto >= p || steps > p || e != api.OK {
				t.Fatalf("behind %d is %d, %d", p, o.Proto, e)
			}
			o, e = h.Obj(o.Proto)
		}
	}
}
