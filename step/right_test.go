package step_test

import (
	"fmt"
	"slices"
	"testing"

	"gumshoe/api"
	"gumshoe/code"
	"gumshoe/lower"
	"gumshoe/samples"
	"gumshoe/step"
)

// nested are functions, and a code of them that may be run: 1 and 3 stand in the program, 2 in 1.
func nested() ([]api.Fun, []api.Proc) {
	funs := []api.Fun{
		{Around: -1, Vars: []string{"a", "b"}},
		{Around: 0, Name: "f", Params: 1, Vars: []string{"c"}, Mark: 4},
		{Around: 1, Vars: []string{"d", "e", "f"}, Mark: 6},
		{Around: 0, Params: 2, Vars: []string{"g", "h"}, Mark: 8},
	}
	return funs, []api.Proc{
		proc(closure(0, 1), closure(1, 3), set(0, 0), set(1, 1), ret(none)),
		proc(closure(0, 2), set(0, 1000), variable(1, 1), ret(0)),
		proc(variable(0, 2002), variable(1, 1000), set(1, 0), ret(1)),
		proc(variable(0, 3001), variable(1, 1), ret(none)),
	}
}

// judged holds Right, and whether Run takes it, against whether functions and a code may be run.
func judged(t *testing.T, what string, funs []api.Fun, l []api.Proc, want bool) {
	t.Helper()
	if got := step.Right(funs, l); got != want {
		t.Errorf("%s: %t", what, got)
	}
	o, e := step.Run(funs, l, nil, 100)
	if want != (e == api.OK) || !want && e != api.ErrCode {
		t.Errorf("%s: Run tells %d", what, e)
	}
	if !want {
		nothing(t, what, o)
	}
}

// changed judges functions and a code of which something was changed.
func changed(t *testing.T, what string, want bool, change func(funs []api.Fun, l []api.Proc)) {
	t.Helper()
	funs, l := nested()
	change(funs, l)
	judged(t, what, funs, l, want)
}

// P11.1: how many functions and procs there are.
func TestAsManyProcsAsFunctions(t *testing.T) {
	funs, l := nested()
	judged(t, "as they are", funs, l, true)
	judged(t, "a proc fewer", funs, l[:3], false)
	judged(t, "a function fewer", funs[:3], l, false)
	judged(t, "a function more", append(funs, api.Fun{Mark: 10}), l, false)
	judged(t, "a proc more", funs, append(l, proc(ret(none))), false)
	judged(t, "no procs", funs, nil, false)
	judged(t, "no functions", nil, l, false)
	judged(t, "nothing", nil, nil, false)
	judged(t, "empty lists", []api.Fun{}, []api.Proc{}, false)
	judged(t, "the program alone", []api.Fun{{Around: -1}}, []api.Proc{{Ins: []api.Ins{ret(none)}}}, true)
}

// P11.1: a code that is wrong by itself may not be run.
func TestWrongCodes(t *testing.T) {
	for what, p := range map[string]api.Proc{
		"no instructions":     {},
		"no return":           proc(jump(0)),
		"no operation":        proc(api.Ins{}, ret(none)),
		"no such operation":   proc(api.Ins{Op: 27}, ret(none)),
		"no such register":    proc(ret(8)),
		"no such place":       proc(jump(2), ret(none)),
		"no such sign":        proc(two(0, 0, "/", 0), ret(none)),
		"a place as value":    proc(constant(0, ref(0)), ret(none)),
		"a mark too small":    proc(object(0, 3), ret(none)),
		"the program in it":   proc(closure(0, 0), ret(none)),
		"no such function":    proc(closure(0, 4), ret(none)),
		"no such variable":    proc(variable(0, 200), ret(none)),
		"registers too few":   {Regs: -1, Ins: []api.Ins{ret(none)}},
		"registers too many":  {Regs: api.MaxRegs + 1, Ins: []api.Ins{ret(none)}},
		"too much is told":    proc(api.Ins{Op: api.IRet, A: none, B: 1}),
		"a variable below 0":  proc(set(0, -1), ret(none)),
		"a function below 0":  proc(closure(0, -1), ret(none)),
		"no such argument":    proc(call(0, 0, none, 4, 8), ret(none)),
		"a mark that's great": proc(construct(0, 0, api.MaxMark+1), ret(none)),
	} {
		for number := range 4 {
			changed(t, fmt.Sprint(what, " in ", number), false, func(_ []api.Fun, l []api.Proc) { l[number] = p })
		}
	}
}

// P11.1: where functions stand.
func TestAround(t *testing.T) {
	empty := func(l []api.Proc) {
		for i := range l {
			l[i] = proc(ret(none))
		}
	}
	for number, rights := range [][]int{{-1}, {0}, {0, 1}, {0, 1, 2}} {
		for _, around := range []int{-1 << 63, -2, -1, 0, 1, 2, 3, 4, 5, 1<<63 - 1} {
			changed(t, fmt.Sprint(number, " in ", around), slices.Contains(rights, around), func(funs []api.Fun, l []api.Proc) {
				empty(l)
				funs[number].Around = around
			})
		}
	}
}

// P11.1: how many parameters and variables there are.
func TestParams(t *testing.T) {
	for number := range 4 {
		for _, vars := range []int{3, 199, 200, 201, 1000} {
			for _, params := range []int{-1 << 63, -1, 0, 1, vars - 1, vars, vars + 1, 1<<63 - 1} {
				want := vars <= 200 && params >= 0 && params <= vars
				changed(t, fmt.Sprint(params, " of ", vars), want, func(funs []api.Fun, _ []api.Proc) {
					funs[number].Params, funs[number].Vars = params, make([]string, vars)
				})
			}
		}
		changed(t, "no variables", true, func(funs []api.Fun, l []api.Proc) {
			for i := range l {
				l[i] = proc(ret(none))
			}
			funs[number].Params, funs[number].Vars = 0, nil
		})
	}
}

// P11.1: which marks functions have: the program's is not asked for.
func TestMarks(t *testing.T) {
	for number := range 4 {
		for _, mark := range []int{-1 << 63, -1, 0, 3, 4, 5, 999999, 1000000, 1000001, 1<<63 - 1} {
			want := number == 0 || mark >= 4 && mark <= 1000000
			changed(t, fmt.Sprint(number, " of the mark ", mark), want, func(funs []api.Fun, _ []api.Proc) { funs[number].Mark = mark })
		}
	}
	changed(t, "one mark for all", true, func(funs []api.Fun, _ []api.Proc) { funs[1].Mark, funs[2].Mark = 8, 8 })
	changed(t, "other names", true, func(funs []api.Fun, _ []api.Proc) { funs[0].Name, funs[1].Vars = "if", []string{""} })
}

// P11.1: which variables procs may name.
func TestVariables(t *testing.T) {
	knows := [][]int64{{0, 1}, {0, 1, 1000}, {0, 1, 1000, 2000, 2001, 2002}, {0, 1, 3000, 3001}}
	for number, l := range knows {
		for _, n := range []int64{0, 1, 2, 199, 1000, 1001, 1199, 2000, 2001, 2002, 2003, 3000, 3001, 3002} {
			for _, i := range []api.Ins{variable(0, n), set(0, n)} {
				changed(t, fmt.Sprint(number, " names ", n), slices.Contains(l, n), func(_ []api.Fun, l []api.Proc) { l[number] = proc(ret(none), i, ret(none)) })
			}
		}
	}
}

// P11.1: which functions procs may make closures of.
func TestFunctions(t *testing.T) {
	for number, l := range [][]int64{{1, 3}, {2}, {}, {}} {
		for _, n := range []int64{1, 2, 3} {
			changed(t, fmt.Sprint(number, " makes ", n), slices.Contains(l, n), func(_ []api.Fun, l []api.Proc) { l[number] = proc(ret(none), closure(0, n), ret(none)) })
		}
	}
}

// P11.1: functions within each other, as many as there may be marks for, know what is around them.
func TestManyFunctions(t *testing.T) {
	const count = 3000
	funs, l := []api.Fun{{Around: -1, Vars: []string{"a"}}}, []api.Proc{proc(closure(0, 1), ret(none))}
	for n := int64(1); n < count; n++ {
		funs = append(funs, api.Fun{Around: int(n) - 1, Vars: []string{"a"}, Mark: 4})
		l = append(l, proc(variable(0, 0), variable(0, n/2*1000), variable(0, n*1000), ret(none)))
	}
	judged(t, "a chain", funs, l, true)
	l[count-1] = proc(variable(0, count/2*1000+1), ret(none))
	judged(t, "a chain", funs, l, false)
}

// P11.1: what Lower answers may be run.
func TestLowered(t *testing.T) {
	for seed := range uint64(500) {
		funs, l, _, e := lower.Lower(samples.Program(generator(16, seed).IntN))
		if e != api.OK || !step.Right(funs, l) {
			t.Fatalf("seed %d: %d", seed, e)
		}
	}
}

// mayBeRun is Right by the chapter's words, of functions and a code that need no chain to be followed more than a few times.
func mayBeRun(funs []api.Fun, l []api.Proc) bool {
	right := code.Right(l) && len(l) == len(funs)
	for n, f := range funs {
		right = right && f.Params >= 0 && f.Params <= len(f.Vars) && len(f.Vars) <= 200 && (n == 0 && f.Around == -1 || n > 0 && f.Around >= 0 && f.Around < n && f.Mark >= 4 && f.Mark <= 1000000)
	}
	for n := 0; right && n < len(l); n++ {
		vars, within := map[int64]bool{}, map[int64]bool{}
		for f := n; f >= 0; f = funs[f].Around {
			for place := range funs[f].Vars {
				vars[int64(1000*f+place)] = true
			}
		}
		for f := range funs {
			within[int64(f)] = funs[f].Around == n
		}
		for _, i := range l[n].Ins {
			right = right && (i.Op != api.IVar && i.Op != api.ISet || vars[i.N]) && (i.Op != api.IFun || within[i.N])
		}
	}
	return right
}

// P11.1, R1: functions and codes at random, of which something was changed at random: no call panics.
func TestChangedCodes(t *testing.T) {
	counts := map[bool]int{}
	for seed := range uint64(20000) {
		c := coded(20, seed)
		n := c.IntN(len(c.funs))
		f, i := &c.funs[n], &c.l[n].Ins[c.IntN(len(c.l[n].Ins))]
		odd := pick(c, -1<<63, -2, -1, 0, 1, 2, 3, 4, 1000, 1001, 200, 999999, 1000001, 1<<63-1, c.Int())
		switch c.IntN(9) {
		case 0:
			f.Around = odd
		case 1:
			f.Params = odd
		case 2:
			f.Mark = odd
		case 3:
			f.Vars = make([]string, c.IntN(210))
		case 4:
			i.N = pick(c, int64(odd), 1000*int64(c.IntN(6))+int64(c.IntN(4)))
		case 5:
			i.Op = c.IntN(30) - 1
		case 6:
			*pick(c, &i.A, &i.B, &i.C, &i.D, &c.l[n].Regs) = odd
		case 7:
			c.funs = c.funs[:n]
		case 8:
			c.l = c.l[:n]
		}
		want := mayBeRun(c.funs, c.l)
		judged(t, fmt.Sprint("seed ", seed), c.funs, c.l, want)
		counts[want]++
	}
	if counts[true] < 2000 || counts[false] < 2000 {
		t.Error(counts)
	}
}
