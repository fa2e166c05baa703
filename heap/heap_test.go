package heap_test

import (
	"fmt"
	"math"
	"slices"
	"strings"
	"testing"

	"gumshoe/api"
	"gumshoe/heap"
)

var (
	undef = api.Val{}
	null  = api.Val{Kind: api.VNull}
	no    = api.Val{Kind: api.VBool}
	yes   = api.Val{Kind: api.VBool, N: 1}
)

func num(n int64) api.Val { return api.Val{Kind: api.VNum, N: n} }

func text(s string) api.Val { return api.Val{Kind: api.VText, S: s} }

func ref(p int) api.Val { return api.Val{Kind: api.VRef, N: int64(p)} }

// said is a value in a message: its text in quotes, and not all of a long one.
func said(v api.Val) string { return fmt.Sprintf("{%d %d %.40q}", v.Kind, v.N, v.S) }

// far are places where no heap has an object.
func far() []int {
	return []int{-1, -2, -api.MaxObjs, math.MinInt, math.MinInt + 1, math.MinInt32, api.MaxObjs, api.MaxObjs + 1, math.MaxInt32, math.MaxInt32 + 1, 1 << 32, 1<<32 + 1, 1 << 62, math.MaxInt - 1, math.MaxInt}
}

// alloc is the place of a new object with one behind it.
func alloc(t *testing.T, h *heap.Heap, behind int) int {
	t.Helper()
	next := h.Len()
	p, e := h.Alloc(api.Obj{Mark: 40 + next, Proto: behind})
	if p != next || e != api.OK {
		t.Fatalf("Alloc behind which is %d is %d, %d, not %d", behind, p, e, next)
	}
	return p
}

func put(t *testing.T, h *heap.Heap, p int, key string, v api.Val) {
	t.Helper()
	if e := h.Put(p, key, v); e != api.OK {
		t.Fatalf("Put(%d, %.40q, %s) is %d", p, key, said(v), e)
	}
}

func own(t *testing.T, h *heap.Heap, p int, key string, want api.Val, has bool) {
	t.Helper()
	if v, ok := h.Own(p, key); v != want || ok != has {
		t.Errorf("Own(%d, %.40q) is %s, %v, not %s, %v", p, key, said(v), ok, said(want), has)
	}
}

func get(t *testing.T, h *heap.Heap, p int, key string, want api.Val, has bool) {
	t.Helper()
	if v, ok := h.Get(p, key); v != want || ok != has {
		t.Errorf("Get(%d, %.40q) is %s, %v, not %s, %v", p, key, said(v), ok, said(want), has)
	}
}

func keys(t *testing.T, h *heap.Heap, p int, want ...string) {
	t.Helper()
	if got := h.Keys(p); !slices.Equal(got, want) {
		t.Errorf("Keys(%d) is %.200q, not %.200q", p, got, want)
	}
}

func all(t *testing.T, h *heap.Heap, p int, want ...string) {
	t.Helper()
	if got := h.All(p); !slices.Equal(got, want) {
		t.Errorf("All(%d) is %.200q, not %.200q", p, got, want)
	}
}

// told is all that a heap tells of its objects.
func told(h *heap.Heap) string {
	var b strings.Builder
	fmt.Fprintln(&b, h.Len())
	for p := range h.Len() {
		o, e := h.Obj(p)
		fmt.Fprintln(&b, p, o, e)
		for _, key := range h.Keys(p) {
			v, ok := h.Own(p, key)
			fmt.Fprintf(&b, "%q %v %v\n", key, v, ok)
		}
		fmt.Fprintf(&b, "%q\n", h.All(p))
	}
	return b.String()
}

// some is a heap with two more objects, at 4 and 5, the second one ahead of the first one.
func some(t *testing.T) *heap.Heap {
	t.Helper()
	h := heap.New()
	alloc(t, h, api.PlaceObject)
	put(t, h, 4, "a", num(1))
	put(t, h, 4, "b", ref(4))
	alloc(t, h, 4)
	put(t, h, 5, "b", text("x"))
	put(t, h, 5, "c", undef)
	return h
}

// P7.1: what there is at first.
func TestNew(t *testing.T) {
	h := heap.New()
	if h.Len() != 4 {
		t.Fatalf("Len() is %d", h.Len())
	}
	for p, want := range []api.Obj{
		{Mark: 0, Proto: -1, Code: 0, Frame: 0},
		{Mark: 1, Proto: 0, Code: 0, Frame: 0},
		{Mark: 2, Proto: 1, Code: -1, Frame: 0},
		{Mark: 3, Proto: 1, Code: -2, Frame: 0},
	} {
		if o, e := h.Obj(p); o != want || e != api.OK {
			t.Errorf("Obj(%d) is %v, %d", p, o, e)
		}
	}
	keys(t, h, api.PlaceObject)
	keys(t, h, api.PlaceFunction, "call", "apply")
	keys(t, h, api.PlaceCall)
	keys(t, h, api.PlaceApply)
	own(t, h, api.PlaceFunction, "call", ref(api.PlaceCall), true)
	own(t, h, api.PlaceFunction, "apply", ref(api.PlaceApply), true)
}

// P7.2: the chapter's example.
func TestCallIsBehindCall(t *testing.T) {
	h := heap.New()
	get(t, h, 2, "call", ref(2), true)
	own(t, h, 2, "call", undef, false)
	get(t, h, 3, "call", ref(2), true)
	get(t, h, 2, "apply", ref(3), true)
	get(t, h, 1, "apply", ref(3), true)
	get(t, h, 0, "call", undef, false)
	all(t, h, 0)
	all(t, h, 1, "call", "apply")
	all(t, h, 2, "call", "apply")
	all(t, h, 3, "call", "apply")
}

// P7.1: objects stand at the next place, as they were handed in.
func TestAlloc(t *testing.T) {
	h := heap.New()
	l := []api.Obj{
		{},
		{Mark: 4, Proto: 1, Code: 1, Frame: 0},
		{Mark: 5, Proto: -1},
		{Mark: -7, Proto: 6, Code: -2, Frame: -3},
		{Mark: math.MaxInt, Proto: 3, Code: math.MinInt, Frame: math.MaxInt},
		{Mark: math.MinInt, Proto: 8, Code: math.MaxInt, Frame: math.MinInt},
		{Mark: 4, Proto: 1, Code: 1, Frame: 0},
	}
	for i, o := range l {
		if p, e := h.Alloc(o); p != 4+i || e != api.OK {
			t.Fatalf("Alloc(%v) is %d, %d", o, p, e)
		}
		if h.Len() != 5+i {
			t.Fatalf("Len() is %d", h.Len())
		}
		keys(t, h, 4+i)
	}
	for i, want := range l {
		if o, e := h.Obj(4 + i); o != want || e != api.OK {
			t.Errorf("Obj(%d) is %v, %d", 4+i, o, e)
		}
	}
}

// P7.1: what stands behind an object is there, or nothing is; the object itself is not there yet.
func TestAllocRefuses(t *testing.T) {
	h := some(t)
	was := told(h)
	for _, behind := range append(far()[1:], h.Len(), h.Len()+1) { // -1 is none
		if p, e := h.Alloc(api.Obj{Mark: 9, Proto: behind, Code: 3, Frame: 2}); p != 0 || e != api.ErrArg {
			t.Errorf("Alloc behind which is %d is %d, %d", behind, p, e)
		}
	}
	if told(h) != was {
		t.Error("a call with an error has changed the heap")
	}
	alloc(t, h, -1)
	alloc(t, h, 6)
}

// P7.1: a heap has at most 5000 objects; Alloc's first error is told.
func TestFull(t *testing.T) {
	h := heap.New()
	for h.Len() < api.MaxObjs-1 {
		alloc(t, h, -1)
	}
	if p := alloc(t, h, 4998); p != 4999 || h.Len() != 5000 {
		t.Fatal(p, h.Len())
	}
	for _, behind := range []int{-1, 0, 1, 4999} {
		if p, e := h.Alloc(api.Obj{Proto: behind}); p != 0 || e != api.ErrFull {
			t.Errorf("Alloc behind which is %d is %d, %d", behind, p, e)
		}
	}
	for _, behind := range []int{-2, 5000, math.MaxInt} {
		if p, e := h.Alloc(api.Obj{Proto: behind}); p != 0 || e != api.ErrArg {
			t.Errorf("Alloc behind which is %d is %d, %d", behind, p, e)
		}
	}
	if h.Len() != 5000 {
		t.Errorf("Len() is %d", h.Len())
	}
	if o, e := h.Obj(5000); o != (api.Obj{}) || e != api.ErrPlace {
		t.Errorf("Obj(5000) is %v, %d", o, e)
	}
	put(t, h, 4998, "k", ref(4999))
	get(t, h, 4999, "k", ref(4999), true)
	if e := h.Put(4998, "k", ref(5000)); e != api.ErrArg {
		t.Errorf("Put of a place past the end is %d", e)
	}
}

// P7.1, P7.2, P7.3: where there is no object.
func TestNoObject(t *testing.T) {
	h := some(t)
	was := told(h)
	for _, p := range append(far(), h.Len(), h.Len()+1) {
		if o, e := h.Obj(p); o != (api.Obj{}) || e != api.ErrPlace {
			t.Errorf("Obj(%d) is %v, %d", p, o, e)
		}
		for _, key := range []string{"a", "call", ""} {
			own(t, h, p, key, undef, false)
			get(t, h, p, key, undef, false)
			for _, v := range []api.Val{undef, num(1), ref(4), ref(-1), ref(99), {Kind: 9}, {Kind: api.VBool, N: 2}} {
				if e := h.Put(p, key, v); e != api.ErrPlace {
					t.Errorf("Put(%d, %q, %v) is %d", p, key, v, e)
				}
			}
		}
		keys(t, h, p)
		all(t, h, p)
	}
	if told(h) != was {
		t.Error("a call with an error has changed the heap")
	}
}

// P7.2: values of each kind, at keys of all sorts, are got as they were put.
func TestPut(t *testing.T) {
	h := heap.New()
	p := alloc(t, h, -1)
	names := []string{"", "a", "A", " ", "0", "00", "-1", "length", "prototype", "call", "undefined", "[object]", "a\x00", "\x00", "\xff", "é", strings.Repeat("k", 100000)}
	for _, v := range []api.Val{undef, null, no, yes, num(0), num(1), num(-1), num(math.MaxInt64), num(math.MinInt64), text(""), text("a"), text("\x00\xff"), text(strings.Repeat("t", api.MaxBytes)), ref(0), ref(1), ref(3), ref(p)} {
		for _, key := range names {
			put(t, h, p, key, v)
		}
		for _, key := range names {
			own(t, h, p, key, v, true)
			get(t, h, p, key, v, true)
		}
		keys(t, h, p, names...)
		all(t, h, p, names...)
	}
	own(t, h, p, "b", undef, false)
	get(t, h, p, "b", undef, false)
	if h.Len() != 5 {
		t.Errorf("Len() is %d", h.Len())
	}
}

// P7.2: what is no value is refused, and a place where no object is; neither is put, nor is the key.
func TestPutRefuses(t *testing.T) {
	h := some(t)
	was := told(h)
	wrong := []api.Val{
		{Kind: -1}, {Kind: 6}, {Kind: math.MaxInt}, {Kind: math.MinInt}, {Kind: 1 << 32}, {Kind: 6, N: 4},
		{N: 1}, {S: "a"}, {Kind: api.VNull, N: 1}, {Kind: api.VNull, S: "null"},
		{Kind: api.VBool, N: 2}, {Kind: api.VBool, N: -1}, {Kind: api.VBool, S: "true"},
		{Kind: api.VNum, S: "1"}, {Kind: api.VNum, N: 1, S: "1"}, {Kind: api.VText, N: 1}, {Kind: api.VText, N: 1, S: "a"},
		{Kind: api.VRef, S: "a"}, {Kind: api.VRef, N: 4, S: "a"}, {Kind: api.VRef, N: 99, S: "a"},
		{Kind: api.VRef, N: math.MinInt64}, {Kind: api.VRef, N: math.MaxInt64}, {Kind: api.VRef, N: 1 << 32}, {Kind: api.VRef, N: 1<<32 + 4}, {Kind: api.VRef, N: -1 << 32},
	}
	for _, p := range append(far(), h.Len(), h.Len()+1) {
		wrong = append(wrong, ref(p))
	}
	for _, v := range wrong {
		for p := range h.Len() {
			for _, key := range []string{"a", "b", "c", "new", "", "call"} {
				if e := h.Put(p, key, v); e != api.ErrArg {
					t.Errorf("Put(%d, %q, %v) is %d", p, key, v, e)
				}
			}
		}
	}
	if told(h) != was {
		t.Error("a call with an error has changed the heap")
	}
	put(t, h, 4, "new", ref(5)) // the last place
	alloc(t, h, -1)
	put(t, h, 4, "new", ref(6)) // which was none ahead
}

// R4: a nil heap has nothing, and takes nothing.
func TestNil(t *testing.T) {
	var h *heap.Heap
	for _, p := range append(far(), 0, 1, 4) {
		if n, e := h.Alloc(api.Obj{Mark: 4, Proto: p}); n != 0 || e != api.ErrNil {
			t.Errorf("Alloc behind which is %d is %d, %d", p, n, e)
		}
		if o, e := h.Obj(p); o != (api.Obj{}) || e != api.ErrNil {
			t.Errorf("Obj(%d) is %v, %d", p, o, e)
		}
		for _, v := range []api.Val{undef, num(1), ref(0), {Kind: 9}} {
			if e := h.Put(p, "call", v); e != api.ErrNil {
				t.Errorf("Put(%d, %v) is %d", p, v, e)
			}
		}
		own(t, h, p, "call", undef, false)
		get(t, h, p, "call", undef, false)
		keys(t, h, p)
		all(t, h, p)
	}
	if h.Len() != 0 {
		t.Errorf("Len() is %d", h.Len())
	}
}

// R1: no call on a heap that New did not make panics.
func TestZero(t *testing.T) {
	h := new(heap.Heap)
	for _, p := range append(far(), 0, 1, 4) {
		h.Obj(p)
		h.Own(p, "call")
		h.Get(p, "call")
		h.Keys(p)
		h.All(p)
		h.Put(p, "call", num(1))
		h.Alloc(api.Obj{Proto: p})
	}
	h.Len()
}

// R4: one heap does not hang on another one.
func TestHeapsApart(t *testing.T) {
	a, b := heap.New(), heap.New()
	was := told(b)
	alloc(t, a, 1)
	put(t, a, 0, "p", num(1))
	put(t, a, 1, "call", null)
	put(t, a, 2, "p", ref(4))
	if told(b) != was || told(heap.New()) != was {
		t.Error("a heap hangs on another one")
	}
	get(t, b, 2, "p", undef, false)
	get(t, a, 2, "call", null, true)
	get(t, b, 2, "call", ref(2), true)
}
