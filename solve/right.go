package solve

import "gumshoe/api"

// Marks that are there from the first on, and the first one that functions may have.
const (
	markObject   = 0
	markFunction = 1
	markCall     = 2
	markApply    = 3
	firstMark    = 4
)

// none stands in the place of a this where there is none.
const none = -1

// Right tells whether a system is.
func Right(s api.System) bool {
	if s.Sets < api.Spare || s.Sets > api.MaxSets || len(s.Funs) == 0 {
		return false
	}
	for n, f := range s.Funs {
		if !rightFun(s, n, f) {
			return false
		}
	}
	for _, r := range s.Rules {
		if !rightRule(s, r) {
			return false
		}
	}
	return true
}

// rightFun leaves out the mark of the function 0, which no object has.
func rightFun(s api.System, n int, f api.FunSets) bool {
	marked := n == 0 || f.Mark >= firstMark && f.Mark < api.MaxMark // the mark behind it is the closure's `prototype`'s
	return marked && len(f.Params) <= api.MaxVars && areSets(s, f.Params...) && areSets(s, f.This, f.Ret, f.Throw)
}

// rightRule looks at nothing that the rule's kind does not name.
func rightRule(s api.System, r api.Rule) bool {
	if !isFun(s, r.F) || !areSets(s, r.X) {
		return false
	}
	switch r.Kind {
	case api.RObj:
		return isMark(r.M)
	case api.RFun:
		return r.N > 0 && isFun(s, r.N)
	case api.RCall:
		if r.Z != none && !areSets(s, r.Z) {
			return false
		}
		fallthrough
	case api.RNew:
		if !isMark(r.M) || len(r.L) > api.MaxParts || !areSets(s, r.N) || !areSets(s, r.L...) {
			return false
		}
		fallthrough
	case api.RSub, api.RLoad, api.RLoadX, api.RStore, api.RAny:
		return areSets(s, r.Y)
	}
	return false
}

func isFun(s api.System, n int) bool { return n >= 0 && n < len(s.Funs) }

func isMark(n int) bool { return n >= firstMark && n <= api.MaxMark }

func areSets(s api.System, l ...int) bool {
	for _, n := range l {
		if n < 0 || n >= s.Sets {
			return false
		}
	}
	return true
}
