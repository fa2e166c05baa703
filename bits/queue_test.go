package bits_test

import (
	"math"
	"slices"
	"testing"

	"gumshoe/bits"
)

func push(t *testing.T, q *bits.Queue, n int, want bool) {
	t.Helper()
	if got := q.Push(n); got != want {
		t.Errorf("Push(%d) is %v", n, got)
	}
}

func pop(t *testing.T, q *bits.Queue, n int, ok bool) {
	t.Helper()
	if gotN, gotOK := q.Pop(); gotN != n || gotOK != ok {
		t.Errorf("Pop() is %d, %v, not %d, %v", gotN, gotOK, n, ok)
	}
}

func length(t *testing.T, q *bits.Queue, want int) {
	t.Helper()
	if got := q.Len(); got != want {
		t.Errorf("Len() is %d, not %d", got, want)
	}
}

// P1.3: the chapter's example.
func TestQueueOnce(t *testing.T) {
	q := bits.New()
	length(t, q, 0)
	pop(t, q, 0, false)
	push(t, q, 5, true)
	push(t, q, 5, false)
	length(t, q, 1)
	pop(t, q, 5, true)
	length(t, q, 0)
	pop(t, q, 0, false)
}

// P1.3: numbers come out in the order in which they came; one that is pushed again keeps its place, one that was popped goes behind.
func TestQueueOrder(t *testing.T) {
	q := bits.New()
	for _, n := range []int{4, 2, 9} {
		push(t, q, n, true)
	}
	push(t, q, 2, false)
	push(t, q, 4, false)
	length(t, q, 3)
	pop(t, q, 4, true)
	push(t, q, 4, true)
	length(t, q, 3)
	for _, n := range []int{2, 9, 4} {
		pop(t, q, n, true)
	}
	pop(t, q, 0, false)
	push(t, q, 2, true)
	pop(t, q, 2, true)
}

// P1.3: a queue has numbers of every kind, not just a set's.
func TestQueueAnyNumber(t *testing.T) {
	q := bits.New()
	l := []int{0, -1, math.MinInt, math.MaxInt, 1 << 30, 1<<30 + 1}
	for _, n := range l {
		push(t, q, n, true)
	}
	for _, n := range l {
		push(t, q, n, false)
	}
	length(t, q, len(l))
	for _, n := range l {
		pop(t, q, n, true)
	}
	length(t, q, 0)
}

// P1.3, R4: a nil queue has nothing, and takes nothing.
func TestQueueNil(t *testing.T) {
	var q *bits.Queue
	for range 2 {
		push(t, q, 5, false)
		pop(t, q, 0, false)
		length(t, q, 0)
	}
}

// R1: a queue that New did not make panics no more than another one.
func TestQueueZero(t *testing.T) {
	q := new(bits.Queue)
	pop(t, q, 0, false)
	length(t, q, 0)
	push(t, q, 3, true)
	push(t, q, 3, false)
	length(t, q, 1)
	pop(t, q, 3, true)
	pop(t, q, 0, false)
}

// R4: one queue does not hang on another one.
func TestQueuesApart(t *testing.T) {
	a, b := bits.New(), bits.New()
	push(t, a, 1, true)
	push(t, b, 2, true)
	push(t, b, 1, true)
	pop(t, a, 1, true)
	length(t, a, 0)
	length(t, b, 2)
	pop(t, b, 2, true)
	pop(t, b, 1, true)
}

// P1.3: many pushes and pops, held against a plain list.
func TestQueueLikeAList(t *testing.T) {
	q := bits.New()
	var list []int
	x := uint32(1)
	for range 200000 {
		x = x*1664525 + 1013904223
		if n := int(x >> 24); x>>23&1 == 0 {
			fresh := !slices.Contains(list, n)
			if fresh {
				list = append(list, n)
			}
			if q.Push(n) != fresh {
				t.Fatalf("Push(%d) is not %v", n, fresh)
			}
		} else if n, ok := q.Pop(); len(list) == 0 {
			if n != 0 || ok {
				t.Fatalf("Pop() is %d, %v", n, ok)
			}
		} else {
			if n != list[0] || !ok {
				t.Fatalf("Pop() is %d, %v, not %d", n, ok, list[0])
			}
			list = list[1:]
		}
		if q.Len() != len(list) {
			t.Fatalf("Len() is %d, not %d", q.Len(), len(list))
		}
	}
}
