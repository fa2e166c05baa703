package value_test

import (
	"bytes"
	"math"
	"math/big"
	"math/rand/v2"
	"slices"
	"strings"
	"testing"

	"gumshoe/api"
	"gumshoe/value"
)

func signs() []string { return []string{"+", "-", "*", "<", "<=", "===", "!=="} }

// makes asks for what a sign makes of two values.
func makes(t *testing.T, s string, a api.Val, b api.Val, want api.Val) {
	t.Helper()
	if got, e := value.Two(s, a, b); got != want || e != api.OK {
		t.Errorf("Two(%q, %s, %s) is %s, %d, not %s", s, told(a), told(b), told(got), e, told(want))
	}
}

// refuses asks for an error, and nothing beside it.
func refuses(t *testing.T, s string, a api.Val, b api.Val, want api.Errno) {
	t.Helper()
	if got, e := value.Two(s, a, b); got != (api.Val{}) || e != want {
		t.Errorf("Two(%.40q, %s, %s) is %s, %d, not the error %d", s, told(a), told(b), told(got), e, want)
	}
}

// P6.2: the chapter's examples, and those of the whole.
func TestExamples(t *testing.T) {
	makes(t, "+", num(1), text("a"), text("1a"))
	makes(t, "+", yes, num(2), num(3))
	makes(t, "===", num(1), text("1"), no)
	makes(t, "<", text("10"), text("9"), yes)
}

// P6.2: sums, and texts behind each other.
func TestPlus(t *testing.T) {
	for _, c := range []struct{ a, b, want api.Val }{
		{num(1), num(2), num(3)},
		{num(1), num(-2), num(-1)},
		{yes, yes, num(2)},
		{no, null, num(0)},
		{undef, undef, num(0)},
		{undef, num(4), num(4)},
		{null, yes, num(1)},
		{ref(7), num(4), num(4)},
		{ref(7), ref(8), num(0)},
		{num(math.MaxInt64), num(1), num(math.MinInt64)},
		{num(math.MinInt64), num(-1), num(math.MaxInt64)},
		{num(math.MinInt64), num(math.MinInt64), num(0)},
		{text("1"), num(2), text("12")},
		{num(1), text("2"), text("12")},
		{text("1"), text("2"), text("12")},
		{text(""), text(""), text("")},
		{text(""), num(0), text("0")},
		{num(-5), text(""), text("-5")},
		{text("a"), undef, text("aundefined")},
		{null, text("a"), text("nulla")},
		{text("a"), yes, text("atrue")},
		{no, text("a"), text("falsea")},
		{text("a"), ref(3), text("a[object]")},
		{ref(-1), text("\xff"), text("[object]\xff")},
		{num(math.MinInt64), text("\x00"), text("-9223372036854775808\x00")},
	} {
		makes(t, "+", c.a, c.b, c.want)
	}
}

// P6.2: differences and products, of texts too.
func TestMinusTimes(t *testing.T) {
	for _, c := range []struct {
		a, b                api.Val
		difference, product int64
	}{
		{num(5), num(3), 2, 15},
		{num(3), num(5), -2, 15},
		{num(-4), num(3), -7, -12},
		{text("5"), text("3"), 2, 15},
		{text("5"), num(3), 2, 15},
		{text("05"), num(3), -3, 0},
		{text("a"), text("b"), 0, 0},
		{yes, no, 1, 0},
		{yes, yes, 0, 1},
		{undef, num(3), -3, 0},
		{num(3), null, 3, 0},
		{ref(9), num(3), -3, 0},
		{num(3), ref(9), 3, 0},
		{num(math.MinInt64), num(1), math.MaxInt64, math.MinInt64},
		{num(0), num(math.MinInt64), math.MinInt64, 0},
		{num(math.MinInt64), num(-1), math.MinInt64 + 1, math.MinInt64},
		{num(math.MaxInt64), num(-1), math.MinInt64, -math.MaxInt64},
		{num(math.MaxInt64), num(2), math.MaxInt64 - 2, -2},
		{num(1 << 32), num(1 << 32), 0, 0},
		{num(1 << 62), num(2), 1<<62 - 2, math.MinInt64},
	} {
		makes(t, "-", c.a, c.b, num(c.difference))
		makes(t, "*", c.a, c.b, num(c.product))
	}
}

// P6.2: what is ahead of what.
func TestOrder(t *testing.T) {
	for _, c := range []struct {
		a, b  api.Val
		order int
	}{
		{num(1), num(2), -1},
		{num(2), num(2), 0},
		{num(2), num(-3), 1},
		{num(math.MinInt64), num(math.MaxInt64), -1},
		{num(math.MaxInt64), num(math.MinInt64), 1},
		{num(9), num(10), -1},
		{text("9"), text("10"), 1},
		{text("9"), num(10), -1},
		{num(9), text("10"), -1},
		{text("a"), text("b"), -1},
		{text("a"), text("a"), 0},
		{text("B"), text("a"), -1},
		{text("a"), text("ab"), -1},
		{text(""), text("\x00"), -1},
		{text(""), text(""), 0},
		{text("\x7f"), text("\x80"), -1},
		{text("\xff"), text("a"), 1},
		{text("\xff"), text("é"), 1},
		{text("-1"), text("-2"), -1},
		{text("1"), text("01"), 1},
		{text("a"), num(0), 0},
		{text("a"), num(1), -1},
		{text(""), num(-1), 1},
		{text("true"), yes, -1},
		{yes, no, 1},
		{yes, num(1), 0},
		{undef, null, 0},
		{undef, num(-1), 1},
		{null, text("1"), -1},
		{ref(3), ref(2), 0},
		{ref(3), num(1), -1},
		{ref(3), text("[object]"), 0},
	} {
		makes(t, "<", c.a, c.b, truth(c.order < 0))
		makes(t, "<=", c.a, c.b, truth(c.order <= 0))
		makes(t, "<", c.b, c.a, truth(c.order > 0))
		makes(t, "<=", c.b, c.a, truth(c.order >= 0))
	}
}

// P6.2: what is the same value.
func TestAlike(t *testing.T) {
	all := append(few(), text(strings.Repeat("a", 70000)), text(strings.Repeat("a", 69999)+"b"))
	for i, a := range all {
		for j, b := range all {
			if slices.Index(all, a) != i || slices.Index(all, b) != j {
				t.Fatalf("%s stands twice", told(a))
			}
			makes(t, "===", a, b, truth(i == j))
			makes(t, "!==", a, b, truth(i != j))
		}
	}
	makes(t, "===", text("ab"), text(string([]byte{'a', 'b'})), yes)
	makes(t, "===", ref(5), ref(5), yes)
	makes(t, "===", undef, null, no)
	makes(t, "!==", num(0), ref(0), yes)
}

// reference is what a sign makes of two values, without a text that is too big, as the chapter's words say it: numbers are as great as they come, and only then cut to 64 bits.
func reference(s string, a api.Val, b api.Val) api.Val {
	x, y, texts := big.NewInt(value.Num(a)), big.NewInt(value.Num(b)), 0
	for _, v := range []api.Val{a, b} {
		if v.Kind == api.VText {
			texts++
		}
	}
	order := x.Cmp(y)
	if texts == 2 {
		order = bytes.Compare([]byte(a.S), []byte(b.S))
	}
	same := a.Kind == b.Kind && a.N == b.N && a.S == b.S
	switch s {
	case "+":
		if texts > 0 {
			return text(strings.Join([]string{value.Key(a), value.Key(b)}, ""))
		}
		return num(cut(x.Add(x, y)))
	case "-":
		return num(cut(x.Sub(x, y)))
	case "*":
		return num(cut(x.Mul(x, y)))
	case "<":
		return truth(order == -1)
	case "<=":
		return truth(order != 1)
	case "===":
		return truth(same)
	}
	return truth(!same)
}

// cut is a number of 64 bits, that goes round.
func cut(n *big.Int) int64 {
	round := new(big.Int).Lsh(big.NewInt(1), 64)
	n.Mod(n, round)
	if n.Bit(63) == 1 {
		n.Sub(n, round)
	}
	return n.Int64()
}

// P6.2: all signs, of all pairs of values, each a right one.
func TestTwoLikeTheWords(t *testing.T) {
	for _, s := range signs() {
		for _, a := range few() {
			for _, b := range few() {
				makes(t, s, a, b, reference(s, a, b))
			}
		}
	}
	r := rand.New(rand.NewPCG(6, 2))
	for range 50000 {
		a, b := num(int64(r.Uint64())>>r.IntN(64)), num(int64(r.Uint64())>>r.IntN(64))
		for _, s := range signs() {
			makes(t, s, a, b, reference(s, a, b))
		}
	}
}

// P6.2: what is no sign.
func TestErrSign(t *testing.T) {
	full := text(strings.Repeat("a", api.MaxBytes))
	for _, s := range []string{
		"", " ", "+ ", " +", "++", "+=", "--", "**", "/", "%", ">", ">=", "==", "!=", "=", "!", "<<", "<==", "====", "!===", "=<", "&&", "||", "?", ":", ",", ".", "in",
		"+\x00", "\x00", "\xff", "plus", "a", "1", "{", "(", "[", "−", "＋", strings.Repeat("+", 70000),
	} {
		for _, v := range []api.Val{undef, num(1), text("a"), ref(0), full, {Kind: 9}} {
			refuses(t, s, v, v, api.ErrSign)
		}
	}
	for b := range 256 {
		s := string([]byte{byte(b)})
		if !slices.Contains(signs(), s) {
			refuses(t, s, num(1), num(2), api.ErrSign)
		}
		refuses(t, "+"+s, num(1), num(2), api.ErrSign)
	}
}

// P6.2: texts of the greatest length, and of one byte more.
func TestErrBig(t *testing.T) {
	long := func(n int) api.Val { return text(strings.Repeat("a", n)) }
	for _, v := range []api.Val{undef, null, no, yes, num(0), num(math.MinInt64), ref(3), text("b"), text(""), long(api.MaxBytes / 2), long(api.MaxBytes)} {
		key := value.Key(v)
		rest := strings.Repeat("a", api.MaxBytes-len(key))
		makes(t, "+", text(rest), v, text(rest+key))
		makes(t, "+", v, text(rest), text(key+rest))
		for _, more := range []int{1, 2, 1000, api.MaxBytes} {
			over := long(len(rest) + more)
			refuses(t, "+", over, v, api.ErrBig)
			refuses(t, "+", v, over, api.ErrBig)
		}
	}
	full, over := long(api.MaxBytes), long(api.MaxBytes+1)
	for _, s := range signs()[1:] {
		for _, v := range []api.Val{full, over, num(1), undef} {
			makes(t, s, v, over, reference(s, v, over))
			makes(t, s, full, v, reference(s, full, v))
		}
	}
	makes(t, "+", num(math.MinInt64), ref(1), num(math.MinInt64))
}

// P6.2: Neg and Not.
func TestNegNot(t *testing.T) {
	for _, c := range []struct{ v, neg, not api.Val }{
		{num(5), num(-5), no},
		{num(-5), num(5), no},
		{num(0), num(0), yes},
		{num(math.MaxInt64), num(-math.MaxInt64), no},
		{num(math.MinInt64), num(math.MinInt64), no},
		{undef, num(0), yes},
		{null, num(0), yes},
		{no, num(0), yes},
		{yes, num(-1), no},
		{text("7"), num(-7), no},
		{text("-7"), num(7), no},
		{text("0"), num(0), no},
		{text("a"), num(0), no},
		{text("07"), num(0), no},
		{text(""), num(0), yes},
		{ref(0), num(0), no},
		{ref(7), num(0), no},
	} {
		if got := value.Neg(c.v); got != c.neg {
			t.Errorf("Neg(%s) is %v", told(c.v), got)
		}
		if got := value.Not(c.v); got != c.not {
			t.Errorf("Not(%s) is %v", told(c.v), got)
		}
	}
	for _, v := range right() {
		without, _ := value.Two("-", num(0), v)
		if got := value.Neg(v); got != without {
			t.Errorf("Neg(%s) is %v", told(v), got)
		}
		if got := value.Not(v); got != truth(!value.Truthy(v)) {
			t.Errorf("Not(%s) is %v", told(v), got)
		}
	}
}

// P6.3: sums hang not on order, if there is no text.
func TestSumsAndOrder(t *testing.T) {
	sum := func(l ...api.Val) api.Val {
		total := num(0)
		for _, v := range l {
			got, e := value.Two("+", total, v)
			if e != api.OK {
				t.Fatal(e)
			}
			total = got
		}
		return total
	}
	var plain []api.Val
	for _, v := range few() {
		if v.Kind != api.VText {
			plain = append(plain, v)
		}
	}
	for _, a := range plain {
		for _, b := range plain {
			ahead, _ := value.Two("+", a, b)
			makes(t, "+", b, a, ahead)
			for _, c := range plain {
				want := sum(a, b, c)
				if sum(c, b, a) != want || sum(b, c, a) != want || sum(a, sum(b, c)) != want {
					t.Errorf("the sum of %v, %v, %v hangs on order", a, b, c)
				}
			}
		}
	}
	makes(t, "+", text("a"), num(1), text("a1")) // but with a text they do
	makes(t, "+", num(1), text("a"), text("1a"))
}

// R1: Two answers at what are no values, too: a right value, or an error with nothing beside it.
func TestTwoOfAny(t *testing.T) {
	all := append(few(), wrong()...)
	for _, s := range append(signs(), "", "/", ">") {
		for _, a := range all {
			for _, b := range all {
				got, e := value.Two(s, a, b)
				if !value.Right(got) || e != api.OK && got != (api.Val{}) || (e == api.OK) != slices.Contains(signs(), s) {
					t.Fatalf("Two(%q, %s, %s) is %s, %d", s, told(a), told(b), told(got), e)
				}
			}
		}
	}
}

// R4: what is answered hangs on nothing but what was handed in.
func TestTwoAgain(t *testing.T) {
	for range 50 {
		for _, s := range signs() {
			makes(t, s, text("10"), num(9), reference(s, text("10"), num(9)))
		}
	}
}
