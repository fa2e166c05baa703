package code_test

import (
	"math"
	"math/rand/v2"
	"slices"
	"strconv"
	"strings"
	"testing"

	"gumshoe/api"
	"gumshoe/code"
	"gumshoe/jlex"
)

// shows asks for a code's text.
func shows(t *testing.T, l []api.Proc, want ...string) {
	t.Helper()
	text := ""
	for _, s := range want {
		text += s + "\n"
	}
	if got, e := code.Show(l); got != text || e != api.OK {
		t.Errorf("Show of %.300v is %.300q, %d, not %.300q", l, got, e, text)
	}
}

// P9.1: the chapter's example.
func TestShowExample(t *testing.T) {
	shows(t, one(0), `proc 0`, `20 0 -1 0 0 0 ""`)
}

// P9.1: one instruction of each operation.
func TestShow(t *testing.T) {
	want := []string{
		`1 1 4 0 0 0 "a"`,
		`2 1 0 0 0 1003 ""`,
		`3 0 1 0 0 2199 ""`,
		`4 2 0 0 0 0 ""`,
		`5 1 0 0 0 0 ""`,
		`6 1 0 0 0 6 ""`,
		`7 2 0 0 0 2 ""`,
		`8 1 2 0 0 0 "p"`,
		`9 0 1 2 0 0 "p q"`,
		`10 0 1 2 0 0 ""`,
		`11 0 2 1 1 0 ""`,
		`12 1 2 -1 0 9 0 2 2 ""`,
		`13 2 1 0 0 1000000 1 ""`,
		`14 1 2 1 0 0 "<="`,
		`15 1 2 0 0 0 ""`,
		`16 2 2 0 0 0 ""`,
		`17 1 1 0 0 0 ""`,
		`18 0 0 0 0 3 ""`,
		`19 0 1 0 0 1 ""`,
		`20 0 1 0 0 0 ""`,
		`21 0 2 0 0 0 ""`,
		`22 1 0 0 0 2 ""`,
		`23 0 0 0 0 0 ""`,
		`24 1 2 0 0 0 ""`,
		`25 1 2 0 0 3 ""`,
		`26 1 0 0 0 0 ""`,
	}
	end, last := `23 0 0 0 0 0 ""`, `20 0 -1 0 0 0 ""`
	for at, i := range samples() {
		shows(t, holding(i), `proc 9`, end, end, end, end, last, `proc 3`, end, want[at], end, last, `proc 0`, last)
	}
	all := append(holding(ret()), one(7, samples()...)...)
	shows(t, all, slices.Concat([]string{`proc 9`, end, end, end, end, last, `proc 3`, end, last, end, last, `proc 0`, last, `proc 7`}, want, []string{last})...)
}

// P9.1: numbers and texts of all kinds.
func TestShowEdges(t *testing.T) {
	last := `20 0 -1 0 0 0 ""`
	shows(t, one(60000, api.Ins{Op: api.IVal, D: 59999, A: api.VNum, N: math.MinInt64}), `proc 60000`, `1 59999 3 0 0 -9223372036854775808 ""`, last)
	shows(t, one(1, api.Ins{Op: api.IVal, A: api.VNum, N: math.MaxInt64}), `proc 1`, `1 0 3 0 0 9223372036854775807 ""`, last)
	shows(t, one(1, api.Ins{Op: api.IVal, A: api.VText, S: "\"\\\n\t\x00 \x7f\xff'"}), `proc 1`, `1 0 4 0 0 0 "\"\\\n\t\x00 \x7f\xff'"`, last)
	shows(t, one(1, api.Ins{Op: api.ICall, B: -1, N: 4, L: []int{}}), `proc 1`, `12 0 0 -1 0 4 ""`, last)
	long := strings.Repeat("0 ", 3000)
	shows(t, one(1, api.Ins{Op: api.INew, N: 4, L: make([]int, 3000)}), `proc 1`, `13 0 0 0 0 4 `+long+`""`, last)
}

// P9.1, R2: what is no code has no text.
func TestErrCode(t *testing.T) {
	wrong := [][]api.Proc{nil, {}, {{}}, one(-1), one(60001), append(one(0), api.Proc{}), one(0, api.Ins{}), one(1, api.Ins{Op: api.IFun, N: 1})}
	for _, i := range samples() {
		for _, c := range changed(i) {
			if l := holding(c); !reference(l) {
				wrong = append(wrong, l)
			}
		}
	}
	for _, l := range wrong {
		if s, e := code.Show(l); s != "" || e != api.ErrCode {
			t.Errorf("Show of %.300v is %.300q, %d", l, s, e)
		}
	}
}

// read is the code that a text tells.
func read(t *testing.T, text string) []api.Proc {
	t.Helper()
	var l []api.Proc
	for s := range strings.Lines(text) {
		if regs, ok := strings.CutPrefix(s, "proc "); ok {
			l = append(l, api.Proc{Regs: int(number(t, strings.TrimSuffix(regs, "\n")))})
			continue
		}
		p := &l[len(l)-1]
		at := strings.IndexByte(s, '"')
		var n []int64
		for word := range strings.SplitSeq(strings.TrimSuffix(s[:at], " "), " ") {
			n = append(n, number(t, word))
		}
		i := api.Ins{Op: int(n[0]), D: int(n[1]), A: int(n[2]), B: int(n[3]), C: int(n[4]), N: n[5]}
		for _, register := range n[6:] {
			i.L = append(i.L, int(register))
		}
		toks, _, e := jlex.Lex(s[at:])
		if e != api.OK || len(toks) != 1 || toks[0].Kind != api.TText {
			t.Fatalf("%.300q ends with no text", s)
		}
		i.S = toks[0].S
		p.Ins = append(p.Ins, i)
	}
	return l
}

func number(t *testing.T, s string) int64 {
	t.Helper()
	n, err := strconv.ParseInt(s, 10, 64)
	if err != nil {
		t.Fatal(err)
	}
	return n
}

// P9.3: a text tells all of its code; so unlike codes have unlike texts, and alike ones have one.
func TestUnlike(t *testing.T) {
	var codes [][]api.Proc
	for _, i := range samples() {
		for _, c := range append(changed(i), i) {
			if l := holding(c); code.Right(l) {
				codes = append(codes, l)
			}
		}
	}
	r := rand.New(rand.NewPCG(9, 3))
	for range 20000 {
		codes = append(codes, random(r))
	}
	met, twice := map[string][]api.Proc{}, 0
	for _, l := range codes {
		text, e := code.Show(l)
		if e != api.OK || !alike(read(t, text), l) || !code.Same(read(t, text), l) {
			t.Fatalf("Show of %.300v is %.300q, %d", l, text, e)
		}
		if _, ok := met[text]; ok {
			twice++
		}
		met[text] = l
	}
	if twice < 100 || len(met) < 5000 {
		t.Errorf("%d texts, %d once more", len(met), twice)
	}
}
