package value_test

import (
	"fmt"
	"math"
	"math/rand/v2"
	"strconv"
	"strings"
	"testing"

	"gumshoe/api"
	"gumshoe/value"
)

var (
	undef = api.Val{}
	null  = api.Val{Kind: api.VNull}
	no    = api.Val{Kind: api.VBool}
	yes   = api.Val{Kind: api.VBool, N: 1}
)

func num(n int64) api.Val { return api.Val{Kind: api.VNum, N: n} }

func text(s string) api.Val { return api.Val{Kind: api.VText, S: s} }

func ref(n int64) api.Val { return api.Val{Kind: api.VRef, N: n} }

// told is a value in a message: its text in quotes, and not all of a long one.
func told(v api.Val) string { return fmt.Sprintf("{%d %d %.40q}", v.Kind, v.N, v.S) }

func truth(is bool) api.Val {
	if is {
		return yes
	}
	return no
}

// numbers are some numbers: small ones, the ends of the kinds of integers, and what lies beside them.
func numbers() []int64 {
	var l []int64
	for n := int64(-12); n <= 12; n++ {
		l = append(l, n)
	}
	for _, n := range []int64{99, 1000, api.MaxNum, 1 << 31, 1 << 32, 1 << 53, 1 << 62, math.MaxInt64 / 10, math.MaxInt64} {
		l = append(l, n-1, n, -n-1, -n, -n+1)
	}
	return l
}

// oddTexts are texts that are no number's key.
func oddTexts() []string {
	return []string{
		"", " ", "-", "--1", "-0", "00", "01", "-01", "007", "+1", "+0", "+", "1 ", " 1", "1\n", "1.0", "1.", ".1", "1e3", "0x10", "1_000", "1,000", "1-", "1-1", "-1-", "-a",
		"a", "a1", "1a", "12a", "1a2", "true", "false", "null", "undefined", "[object]", "NaN", "Infinity", "-Infinity",
		"9223372036854775808", "-9223372036854775809", "9223372036854775817", "18446744073709551615", "18446744073709551616", "18446744073709551621", "36893488147419103233",
		"-18446744073709551617", "92233720368547758070", "-92233720368547758080", "00000000000000000001", "-0000000000000000001", "000000000000000000001",
		"1\x00", "\x001", "1\xff", "\xff", "-\xff", "é", "1é", "١", "１", "-１", "−1", "\u200b1", strings.Repeat("9", 21), strings.Repeat("0", 30), "1" + strings.Repeat("0", 64), strings.Repeat("1", 70000), "-" + strings.Repeat("1", 70000),
	}
}

// right are values of each kind.
func right() []api.Val {
	l := []api.Val{undef, null, no, yes}
	for _, n := range numbers() {
		l = append(l, num(n), ref(n), text(strconv.FormatInt(n, 10)))
	}
	for _, s := range oddTexts() {
		l = append(l, text(s))
	}
	return l
}

// few are enough of them to take each with each.
func few() []api.Val {
	l := []api.Val{undef, null, no, yes, ref(0), ref(1), ref(-1), ref(5)}
	for _, n := range []int64{0, 1, -1, 2, 5, 10, math.MaxInt64, math.MinInt64, 1 << 62} {
		l = append(l, num(n), text(strconv.FormatInt(n, 10)))
	}
	for _, s := range []string{"", "a", "b", "A", "ab", "01", "-0", "9", "\x00", "a\x00", "\xff", "é", "true", "null", "[object]", "TypeError"} {
		l = append(l, text(s))
	}
	return l
}

// wrong are no values: what their kind does not name is not empty, or they are of no kind.
func wrong() []api.Val {
	l := []api.Val{{N: 1}, {N: -1}, {S: "a"}, {S: "undefined"}, {Kind: api.VNull, N: 1}, {Kind: api.VNull, S: "null"}, {N: 1, S: "a"}}
	for _, n := range []int64{-1, 2, 3, math.MaxInt64, math.MinInt64, 1 << 32} {
		l = append(l, api.Val{Kind: api.VBool, N: n}, api.Val{Kind: api.VText, N: n}, api.Val{Kind: api.VText, N: n, S: "1"})
	}
	for _, kind := range []int{api.VBool, api.VNum, api.VRef} {
		l = append(l, api.Val{Kind: kind, S: "a"}, api.Val{Kind: kind, N: 1, S: "1"}, api.Val{Kind: kind, S: "\x00"}, api.Val{Kind: kind, S: " "})
	}
	for _, kind := range []int{-1, 6, 7, 256, -256, 1 << 32, math.MaxInt, math.MinInt} {
		l = append(l, api.Val{Kind: kind}, api.Val{Kind: kind, N: 1}, api.Val{Kind: kind, S: "a"}, api.Val{Kind: kind, N: 7, S: "7"})
	}
	return l
}

// P6.1: Right.
func TestRight(t *testing.T) {
	for _, v := range append(right(), text(strings.Repeat("a", api.MaxBytes)), text("\x00\n\xff")) {
		if !value.Right(v) {
			t.Errorf("Right(%s) is false", told(v))
		}
	}
	for _, v := range wrong() {
		if value.Right(v) {
			t.Errorf("Right(%s) is true", told(v))
		}
	}
}

// P6.1: Right, of all kinds with all that they may have.
func TestRightByKinds(t *testing.T) {
	for kind := -3; kind < 10; kind++ {
		for _, n := range numbers() {
			for _, s := range []string{"", "a", "0", "1", "\x00"} {
				want := false
				switch {
				case kind == api.VUndef || kind == api.VNull:
					want = n == 0 && s == ""
				case kind == api.VBool:
					want = (n == 0 || n == 1) && s == ""
				case kind == api.VNum || kind == api.VRef:
					want = s == ""
				case kind == api.VText:
					want = n == 0
				}
				if v := (api.Val{Kind: kind, N: n, S: s}); value.Right(v) != want {
					t.Errorf("Right(%s) is not %v", told(v), want)
				}
			}
		}
	}
}

// P6.1: Key, Num and Truthy of values.
func TestKeyNumTruthy(t *testing.T) {
	for _, c := range []struct {
		v      api.Val
		key    string
		num    int64
		truthy bool
	}{
		{undef, "undefined", 0, false},
		{null, "null", 0, false},
		{no, "false", 0, false},
		{yes, "true", 1, true},
		{num(0), "0", 0, false},
		{num(1), "1", 1, true},
		{num(-1), "-1", -1, true},
		{num(10), "10", 10, true},
		{num(-305), "-305", -305, true},
		{num(api.MaxNum), "999999999999999", 999999999999999, true},
		{num(math.MaxInt64), "9223372036854775807", math.MaxInt64, true},
		{num(math.MinInt64), "-9223372036854775808", math.MinInt64, true},
		{text(""), "", 0, false},
		{text("0"), "0", 0, true},
		{text("1"), "1", 1, true},
		{text("-1"), "-1", -1, true},
		{text("120"), "120", 120, true},
		{text("9223372036854775807"), "9223372036854775807", math.MaxInt64, true},
		{text("-9223372036854775808"), "-9223372036854775808", math.MinInt64, true},
		{text("9223372036854775808"), "9223372036854775808", 0, true},
		{text("-9223372036854775809"), "-9223372036854775809", 0, true},
		{text("007"), "007", 0, true},
		{text("-0"), "-0", 0, true},
		{text("false"), "false", 0, true},
		{text("true"), "true", 0, true},
		{text(" "), " ", 0, true},
		{text("a\x00\xff"), "a\x00\xff", 0, true},
		{ref(0), "[object]", 0, true},
		{ref(7), "[object]", 0, true},
		{ref(-1), "[object]", 0, true},
		{ref(math.MinInt64), "[object]", 0, true},
	} {
		if got := value.Key(c.v); got != c.key {
			t.Errorf("Key(%s) is %q", told(c.v), got)
		}
		if got := value.Num(c.v); got != c.num {
			t.Errorf("Num(%s) is %d", told(c.v), got)
		}
		if got := value.Truthy(c.v); got != c.truthy {
			t.Errorf("Truthy(%s) is %v", told(c.v), got)
		}
	}
}

// P6.1: each number has its digits, and counts as true but 0.
func TestNumbers(t *testing.T) {
	for _, n := range numbers() {
		v := num(n)
		if value.Key(v) != strconv.FormatInt(n, 10) || value.Num(v) != n || value.Truthy(v) != (n != 0) {
			t.Errorf("of %d: %q, %d, %v", n, value.Key(v), value.Num(v), value.Truthy(v))
		}
	}
}

// P6.1: texts that are no number's key have the number 0, and are their own keys.
func TestOddTexts(t *testing.T) {
	for _, s := range oddTexts() {
		if n := value.Num(text(s)); n != 0 {
			t.Errorf("Num of the text %.40q is %d", s, n)
		}
		if value.Key(text(s)) != s || value.Truthy(text(s)) != (s != "") {
			t.Errorf("the text %.40q has the key %.40q, and counts as %v", s, value.Key(text(s)), value.Truthy(text(s)))
		}
	}
}

// P6.1: of all short texts of a few bytes, just those are numbers' that are the key of one.
func TestShortTexts(t *testing.T) {
	keys := map[string]int64{}
	for n := int64(-9999); n <= 9999; n++ {
		keys[strconv.FormatInt(n, 10)] = n
	}
	const bytes = "0159-+ .a\xb1"
	for length := range 5 {
		all := 1
		for range length {
			all *= len(bytes)
		}
		for k := range all {
			var b []byte
			for range length {
				b = append(b, bytes[k%len(bytes)])
				k /= len(bytes)
			}
			if got := value.Num(text(string(b))); got != keys[string(b)] {
				t.Errorf("Num of the text %q is %d", b, got)
			}
		}
	}
}

// P6.1: texts of long rows of digits are numbers' up to the greatest and the least one, whatever 64 bits make of them.
func TestLongDigits(t *testing.T) {
	r := rand.New(rand.NewPCG(6, 1))
	for range 200000 {
		b := []byte{'-', byte('1' + r.IntN(9))}
		for range 14 + r.IntN(8) {
			b = append(b, byte('0'+r.IntN(10)))
		}
		s := string(b[r.IntN(2):])
		want, err := strconv.ParseInt(s, 10, 64)
		if err != nil {
			want = 0
		}
		if got := value.Num(text(s)); got != want {
			t.Fatalf("Num of the text %q is %d", s, got)
		}
	}
}

// P6.3: a number's key is the text whose number it is.
func TestKeysOfNumbers(t *testing.T) {
	r := rand.New(rand.NewPCG(6, 3))
	l := numbers()
	for range 100000 {
		l = append(l, int64(r.Uint64())>>r.IntN(64))
	}
	for _, n := range l {
		key := value.Key(num(n))
		if got := value.Num(text(key)); got != n {
			t.Fatalf("%d has the key %q, whose number is %d", n, key, got)
		}
		for _, near := range []string{key + "0" + key, "0" + key, "-0" + key, "+" + key, key + " ", " " + key, key + ".", key + "-", "--" + key} {
			if got := value.Num(text(near)); got != 0 && value.Key(num(got)) != near {
				t.Fatalf("the text %q has the number %d", near, got)
			}
		}
	}
}

// R1: what is no value has nothing.
func TestNoValues(t *testing.T) {
	for _, v := range wrong() {
		if value.Key(v) != "" || value.Num(v) != 0 || value.Truthy(v) {
			t.Errorf("%s has %q, %d, %v", told(v), value.Key(v), value.Num(v), value.Truthy(v))
		}
		if value.Neg(v) != num(0) || value.Not(v) != yes {
			t.Errorf("of %s: %v, %v", told(v), value.Neg(v), value.Not(v))
		}
	}
}
