package bits

// held is what a queue has: a map, so that asking for a number takes no search through the order.
type held map[int]struct{}

func (h held) has(n int) bool {
	_, ok := h[n]
	return ok
}

func (h held) take(n int) { h[n] = struct{}{} }

func (h held) drop(n int) { delete(h, n) }

// Queue has each number once, in the order in which they came.
type Queue struct {
	held
	order []int
}

// New is a queue of nothing.
func New() *Queue { return &Queue{held: held{}} }

// Push puts a number behind all others, unless it is there.
func (q *Queue) Push(n int) bool {
	if q == nil || q.has(n) {
		return false
	}
	if q.held == nil { // a Queue that New did not make is one of nothing, too
		q.held = held{}
	}
	q.take(n)
	q.order = append(q.order, n)
	return true
}

// Pop takes the first number off.
func (q *Queue) Pop() (int, bool) {
	if q.Len() == 0 {
		return 0, false
	}
	n := q.order[0]
	q.order = q.order[1:] // no copying: when the list next grows, it takes along only what is left
	q.drop(n)
	return n, true
}

// Len is how many numbers there are.
func (q *Queue) Len() int {
	if q == nil {
		return 0
	}
	return len(q.order)
}
