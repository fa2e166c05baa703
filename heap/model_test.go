package heap_test

import (
	"fmt"
	"math/rand/v2"
	"slices"
	"testing"

	"gumshoe/api"
	"gumshoe/heap"
	"gumshoe/value"
)

// entry is a value that was put.
type entry struct {
	p   int
	key string
	v   api.Val
}

// model is all that was done with a heap: each answer is searched for in that.
type model struct {
	objects []api.Obj
	puts    []entry // from the first one on
}

func modelOfNew() *model {
	return &model{
		objects: []api.Obj{{Proto: -1}, {Mark: 1}, {Mark: 2, Proto: 1, Code: -1}, {Mark: 3, Proto: 1, Code: -2}},
		puts:    []entry{{1, "call", ref(2)}, {1, "apply", ref(3)}},
	}
}

func (m *model) has(p int) bool { return p >= 0 && p < len(m.objects) }

func (m *model) alloc(o api.Obj) (int, api.Errno) {
	if o.Proto != -1 && !m.has(o.Proto) {
		return 0, api.ErrArg
	}
	m.objects = append(m.objects, o)
	return len(m.objects) - 1, api.OK
}

func (m *model) put(p int, key string, v api.Val) api.Errno {
	switch {
	case !m.has(p):
		return api.ErrPlace
	case !value.Right(v), v.Kind == api.VRef && !m.has(int(v.N)):
		return api.ErrArg
	}
	m.puts = append(m.puts, entry{p, key, v})
	return api.OK
}

// own is the last that was put.
func (m *model) own(p int, key string) (api.Val, bool) {
	for _, e := range slices.Backward(m.puts) {
		if e.p == p && e.key == key {
			return e.v, true
		}
	}
	return api.Val{}, false
}

func (m *model) get(p int, key string) (api.Val, bool) {
	if !m.has(p) {
		return api.Val{}, false
	}
	if v, ok := m.own(p, key); ok {
		return v, true
	}
	return m.get(m.objects[p].Proto, key)
}

func (m *model) keys(p int) []string {
	var l []string
	for _, e := range m.puts {
		if e.p == p && !slices.Contains(l, e.key) {
			l = append(l, e.key)
		}
	}
	return l
}

func (m *model) all(p int) []string {
	if !m.has(p) {
		return nil
	}
	l := m.keys(p)
	for _, key := range m.all(m.objects[p].Proto) {
		if !slices.Contains(l, key) {
			l = append(l, key)
		}
	}
	return l
}

// player does at random what may be done, with a heap and with its model.
type player struct {
	*rand.Rand
	h    *heap.Heap
	m    *model
	seen int // how many calls were refused
}

// place is one where an object is, or near by.
func (r *player) place() int { return r.IntN(len(r.m.objects)+4) - 2 }

func (r *player) key() string {
	return []string{"a", "b", "c", "call", "apply", "", "length", "0"}[r.IntN(8)]
}

func (r *player) value() api.Val {
	switch r.IntN(8) {
	case 0:
		return []api.Val{undef, null, no, yes, num(5)}[r.IntN(5)]
	case 1:
		return []api.Val{{N: 1}, {Kind: 6}, {Kind: api.VBool, N: 2}, {Kind: api.VText, N: 1}, {Kind: api.VRef, S: "a"}}[r.IntN(5)]
	case 2, 3:
		return ref(r.place())
	}
	return text(fmt.Sprint(r.IntN(1000)))
}

// act is one call that changes the heap, or is refused.
func (r *player) act(t *testing.T) {
	if r.IntN(3) == 0 {
		o := api.Obj{Mark: r.IntN(9), Proto: r.place(), Code: r.IntN(9) - 2, Frame: r.IntN(9)}
		p, e := r.h.Alloc(o)
		wantP, wantE := r.m.alloc(o)
		r.judge(t, fmt.Sprint("Alloc ", o), p == wantP, e, wantE)
		return
	}
	p, key, v := r.place(), r.key(), r.value()
	r.judge(t, fmt.Sprint("Put ", p, key, v), true, r.h.Put(p, key, v), r.m.put(p, key, v))
}

func (r *player) judge(t *testing.T, what string, same bool, e api.Errno, want api.Errno) {
	t.Helper()
	if !same || e != want {
		t.Fatalf("%s answers %d, not %d, or another place", what, e, want)
	}
	if e != api.OK {
		r.seen++
	}
}

// ask holds all that is told of a heap against its model.
func (r *player) ask(t *testing.T) {
	t.Helper()
	if r.h.Len() != len(r.m.objects) {
		t.Fatalf("Len() is %d, not %d", r.h.Len(), len(r.m.objects))
	}
	for p, want := range r.m.objects {
		if o, e := r.h.Obj(p); o != want || e != api.OK {
			t.Fatalf("Obj(%d) is %v, %d, not %v", p, o, e, want)
		}
		keys(t, r.h, p, r.m.keys(p)...)
		all(t, r.h, p, r.m.all(p)...)
		for _, key := range []string{"a", "b", "c", "call", "apply", "", "length", "0", "none"} {
			v, ok := r.m.own(p, key)
			own(t, r.h, p, key, v, ok)
			v, ok = r.m.get(p, key)
			get(t, r.h, p, key, v, ok)
		}
	}
}

// P7.1 to P7.4: all answers, behind many calls, held against what was done.
func TestLikeTheModel(t *testing.T) {
	refused := 0
	for seed := range uint64(40) {
		r := &player{Rand: rand.New(rand.NewPCG(7, seed)), h: heap.New(), m: modelOfNew()}
		r.ask(t)
		for range 8 {
			for range 15 {
				r.act(t)
			}
			r.ask(t)
		}
		refused += r.seen
	}
	if refused < 100 {
		t.Errorf("only %d calls were refused", refused)
	}
}

// P7.4: what was put is got until something else is put there, whatever is done beside it.
func TestWhatWasPutIsGot(t *testing.T) {
	for seed := range uint64(20) {
		r := &player{Rand: rand.New(rand.NewPCG(74, seed)), h: heap.New(), m: modelOfNew()}
		p := alloc(t, r.h, api.PlaceFunction)
		if _, e := r.m.alloc(api.Obj{Proto: api.PlaceFunction}); e != api.OK {
			t.Fatal(e)
		}
		for i := range 10 {
			put(t, r.h, p, "kept", num(int64(i))) // a key that the player does not put
			for range 20 {
				r.act(t)
				own(t, r.h, p, "kept", num(int64(i)), true)
				get(t, r.h, p, "kept", num(int64(i)), true)
			}
		}
	}
}
