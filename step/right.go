package step

import (
	"iter"

	"gumshoe/api"
	"gumshoe/code"
)

// program is the number of the function that the program is.
const program = 0

// outside is the number of the function around the program: there is none.
const outside = -1

// lowestMark is the first one that a program gives.
const lowestMark = 4

// Right tells whether functions and a code may be run.
func Right(funs []api.Fun, l []api.Proc) bool {
	if len(l) != len(funs) || !code.Right(l) {
		return false
	}
	for number, f := range funs {
		if !rightFun(number, f) {
			return false
		}
	}
	for number, p := range l {
		for _, i := range p.Ins {
			if !names(funs, number, i) {
				return false
			}
		}
	}
	return true
}

func rightFun(number int, f api.Fun) bool {
	if f.Params < 0 || f.Params > len(f.Vars) || len(f.Vars) > api.MaxVars {
		return false
	}
	if number == program {
		return f.Around == outside
	}
	return f.Around >= 0 && f.Around < number && f.Mark >= lowestMark && f.Mark <= api.MaxMark
}

// names tells whether the variable, or the function, that an instruction names is one that its proc's function knows.
func names(funs []api.Fun, number int, i api.Ins) bool {
	switch i.Op {
	case api.IVar, api.ISet:
		return knows(funs, number, i.N)
	case api.IFun:
		return funs[i.N].Around == number
	}
	return true
}

// knows tells whether a function, or one around it, has the variable of a number.
func knows(funs []api.Fun, number int, variable int64) bool {
	of, place := int(variable/api.VarSpan), int(variable%api.VarSpan)
	known := false
nearest:
	for f := range outward(funs, number) {
		if f == of {
			known = place < len(funs[f].Vars)
			break nearest
		}
	}
	return known
}

// outward goes through a function, the one around it, and so on, whose numbers all have been found right.
func outward(funs []api.Fun, number int) iter.Seq[int] {
	return func(yield func(f int) bool) {
		for f := number; f != outside; f = funs[f].Around {
			if !yield(f) {
				return
			}
		}
	}
}
