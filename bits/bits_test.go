package bits_test

import (
	"math"
	"slices"
	"testing"

	"gumshoe/api"
	"gumshoe/bits"
)

// wrong are lists that are no sets.
func wrong() [][]int {
	return [][]int{{-1}, {-1, 0}, {math.MinInt}, {api.MaxSet + 1}, {0, api.MaxSet + 1}, {math.MaxInt}, {2, 2}, {5, 1}, {1, 3, 2}, {0, 0}, {1, 2, -3}, {math.MaxInt, math.MinInt}}
}

// right are lists that are sets.
func right() [][]int {
	return [][]int{nil, {}, {0}, {api.MaxSet}, {0, api.MaxSet}, {1, 5}, {0, 1, 2, 3}, {7, 8, 1000, api.MaxSet - 1}}
}

// subset is the set of the places of mask's bits.
func subset(mask int) []int {
	var s []int
	for i := range 6 {
		if mask>>i&1 == 1 {
			s = append(s, i)
		}
	}
	return s
}

// roomy is a list with spare room that holds other numbers.
func roomy(l ...int) []int {
	return append(slices.Clone(l), 901, 902, 903, 904)[:len(l)]
}

func scribble(l []int) {
	l = l[:cap(l)]
	for i := range l {
		l[i] = -77
	}
}

// P1.1: Right.
func TestRight(t *testing.T) {
	for _, l := range right() {
		if !bits.Right(l) {
			t.Errorf("Right(%v) is false", l)
		}
	}
	for _, l := range wrong() {
		if bits.Right(l) {
			t.Errorf("Right(%v) is true", l)
		}
	}
}

// P1.1: Add.
func TestAdd(t *testing.T) {
	for _, c := range []struct {
		l     []int
		n     int
		want  []int
		fresh bool
	}{
		{nil, 0, []int{0}, true},
		{[]int{}, api.MaxSet, []int{api.MaxSet}, true},
		{[]int{1, 5}, 0, []int{0, 1, 5}, true},
		{[]int{1, 5}, 3, []int{1, 3, 5}, true},
		{[]int{1, 5}, 9, []int{1, 5, 9}, true},
		{[]int{1, 5}, api.MaxSet, []int{1, 5, api.MaxSet}, true},
		{[]int{1, 5}, 1, []int{1, 5}, false},
		{[]int{1, 5}, 5, []int{1, 5}, false},
		{[]int{0, api.MaxSet}, api.MaxSet, []int{0, api.MaxSet}, false},
	} {
		got, fresh, e := bits.Add(c.l, c.n)
		if !slices.Equal(got, c.want) || fresh != c.fresh || e != api.OK {
			t.Errorf("Add(%v, %d) is %v, %v, %d", c.l, c.n, got, fresh, e)
		}
	}
}

func TestAddRefuses(t *testing.T) {
	refused := func(l []int, n int) {
		t.Helper()
		if got, fresh, e := bits.Add(l, n); len(got) != 0 || fresh || e != api.ErrArg {
			t.Errorf("Add(%v, %d) is %v, %v, %d", l, n, got, fresh, e)
		}
	}
	for _, l := range wrong() {
		refused(l, 3)
	}
	for _, n := range []int{-1, api.MaxSet + 1, math.MinInt, math.MaxInt} {
		refused(nil, n)
		refused([]int{1, 5}, n)
	}
	refused([]int{-1}, -1)
}

// P1.1: Has, of any list.
func TestHas(t *testing.T) {
	for _, c := range []struct {
		l    []int
		n    int
		want bool
	}{
		{nil, 0, false},
		{[]int{}, 0, false},
		{[]int{1, 5}, 5, true},
		{[]int{1, 5}, 3, false},
		{[]int{7, 2}, 2, true},
		{[]int{9, 2, 5}, 9, true},
		{[]int{5, 5, 1}, 1, true},
		{[]int{3, -4, math.MaxInt}, -4, true},
		{[]int{3, -4, math.MaxInt}, math.MaxInt, true},
		{[]int{3, -4, math.MaxInt}, math.MinInt, false},
	} {
		if got := bits.Has(c.l, c.n); got != c.want {
			t.Errorf("Has(%v, %d) is %v", c.l, c.n, got)
		}
	}
}

// P1.2: Union.
func TestUnion(t *testing.T) {
	for _, c := range []struct {
		l    [][]int
		want []int
	}{
		{nil, nil},
		{[][]int{nil}, nil},
		{[][]int{{}, nil, {}}, nil},
		{[][]int{{1, 3}}, []int{1, 3}},
		{[][]int{{1, 3}, {2, 3}, {}}, []int{1, 2, 3}},
		{[][]int{{4}, {3}, {2}, {1}, {0}}, []int{0, 1, 2, 3, 4}},
		{[][]int{{0, api.MaxSet}, {api.MaxSet}, {0}}, []int{0, api.MaxSet}},
		{[][]int{{1, 2}, {1, 2}, {1, 2}}, []int{1, 2}},
	} {
		if got, e := bits.Union(c.l...); !slices.Equal(got, c.want) || e != api.OK {
			t.Errorf("Union(%v) is %v, %d", c.l, got, e)
		}
	}
}

// P1.2: Minus, Meet and Within, held against what each number says for itself.
func TestPairs(t *testing.T) {
	for x := range 64 {
		for y := range 64 {
			a, b := subset(x), subset(y)
			if got, e := bits.Minus(a, b); !slices.Equal(got, subset(x&^y)) || e != api.OK {
				t.Errorf("Minus(%v, %v) is %v, %d", a, b, got, e)
			}
			if got, e := bits.Meet(a, b); !slices.Equal(got, subset(x&y)) || e != api.OK {
				t.Errorf("Meet(%v, %v) is %v, %d", a, b, got, e)
			}
			if got, e := bits.Within(a, b); got != (x&^y == 0) || e != api.OK {
				t.Errorf("Within(%v, %v) is %v, %d", a, b, got, e)
			}
		}
	}
}

func TestPairsAtTheEdges(t *testing.T) {
	low, both := []int{0}, []int{0, api.MaxSet}
	if got, e := bits.Minus(both, low); !slices.Equal(got, []int{api.MaxSet}) || e != api.OK {
		t.Error("Minus", got, e)
	}
	if got, e := bits.Meet([]int{api.MaxSet}, both); !slices.Equal(got, []int{api.MaxSet}) || e != api.OK {
		t.Error("Meet", got, e)
	}
	if got, e := bits.Within(both, low); got || e != api.OK {
		t.Error("Within", got, e)
	}
	if got, e := bits.Within([]int{}, nil); !got || e != api.OK {
		t.Error("Within of nothing", got, e)
	}
}

// P1.2: a list that is no set is refused, wherever it stands.
func TestSetsRefuse(t *testing.T) {
	for _, w := range wrong() {
		for _, r := range right() {
			for _, l := range [][][]int{{w}, {w, r}, {r, w}, {r, r, w}, {w, r, r}, {w, w}} {
				if got, e := bits.Union(l...); len(got) != 0 || e != api.ErrArg {
					t.Errorf("Union(%v) is %v, %d", l, got, e)
				}
			}
			for _, p := range [][2][]int{{w, r}, {r, w}, {w, w}} {
				if got, e := bits.Minus(p[0], p[1]); len(got) != 0 || e != api.ErrArg {
					t.Errorf("Minus(%v) is %v, %d", p, got, e)
				}
				if got, e := bits.Meet(p[0], p[1]); len(got) != 0 || e != api.ErrArg {
					t.Errorf("Meet(%v) is %v, %d", p, got, e)
				}
				if got, e := bits.Within(p[0], p[1]); got || e != api.ErrArg {
					t.Errorf("Within(%v) is %v, %d", p, got, e)
				}
			}
		}
	}
}

// P1.4: Union hangs neither on order nor on what is there twice.
func TestUnionOrder(t *testing.T) {
	for x := range 64 {
		for y := range 64 {
			for _, z := range []int{0, 5, 42, 63} {
				a, b, c := subset(x), subset(y), subset(z)
				for _, l := range [][][]int{{a, b, c}, {c, b, a}, {b, a, c}, {a, a, b, c, b}, {c, {}, b, a, c, a}} {
					if got, e := bits.Union(l...); !slices.Equal(got, subset(x|y|z)) || e != api.OK {
						t.Fatalf("Union(%v) is %v, %d", l, got, e)
					}
				}
			}
		}
	}
}

// P1.4: a set is what it has in common with another one, and what it has not.
func TestMeetAndMinusMakeTheWhole(t *testing.T) {
	for _, a := range right() {
		for _, b := range right() {
			common, e1 := bits.Meet(a, b)
			rest, e2 := bits.Minus(a, b)
			whole, e3 := bits.Union(common, rest)
			if !slices.Equal(whole, a) || e1 != api.OK || e2 != api.OK || e3 != api.OK {
				t.Errorf("of %v and %v: %v, %v, %v", a, b, common, rest, whole)
			}
			if again, _ := bits.Meet(common, rest); len(again) != 0 {
				t.Errorf("of %v and %v: %v is in both", a, b, again)
			}
		}
	}
}

// R3: what is handed in is neither changed nor handed out again.
func TestSetsAreNew(t *testing.T) {
	for name, call := range map[string]func(a, b []int) []int{
		"Add":       func(a, _ []int) []int { l, _, _ := bits.Add(a, 6); return l },
		"Add old":   func(a, _ []int) []int { l, _, _ := bits.Add(a, 5); return l },
		"Union":     func(a, b []int) []int { l, _ := bits.Union(a, b, nil); return l },
		"Union one": func(a, _ []int) []int { l, _ := bits.Union(a); return l },
		"Union nil": func(a, _ []int) []int { l, _ := bits.Union(nil, a); return l },
		"Minus":     func(a, b []int) []int { l, _ := bits.Minus(a, b); return l },
		"Minus all": func(a, _ []int) []int { l, _ := bits.Minus(a, nil); return l },
		"Meet":      func(a, b []int) []int { l, _ := bits.Meet(a, b); return l },
		"Meet all":  func(a, _ []int) []int { l, _ := bits.Meet(a, a); return l },
		"Within":    func(a, b []int) []int { bits.Within(a, b); return nil },
		"Has":       func(a, b []int) []int { bits.Has(a, 9); return nil },
	} {
		a, b := roomy(1, 5, 7), roomy(2, 5)
		fullA, fullB := slices.Clone(a[:cap(a)]), slices.Clone(b[:cap(b)])
		scribble(call(a, b))
		if !slices.Equal(a[:cap(a)], fullA) || !slices.Equal(b[:cap(b)], fullB) {
			t.Errorf("%s: %v, %v", name, a[:cap(a)], b[:cap(b)])
		}
	}
}

// Sets of some size: no call may take more than a pass or so over them.
func TestManyNumbers(t *testing.T) {
	const count, size = 1000, 300
	l := make([][]int, count)
	for i := range l {
		for j := range size {
			l[i] = append(l[i], j*count+i)
		}
	}
	all, e := bits.Union(l...)
	if len(all) != count*size || !bits.Right(all) || e != api.OK {
		t.Fatal(len(all), e)
	}
	odd, e := bits.Minus(all, l[0])
	if len(odd) != (count-1)*size || bits.Has(odd, count) || e != api.OK {
		t.Error(len(odd), e)
	}
	if in, e := bits.Within(odd, all); !in || e != api.OK {
		t.Error(in, e)
	}
	if in, e := bits.Within(all, odd); in || e != api.OK {
		t.Error(in, e)
	}
}
