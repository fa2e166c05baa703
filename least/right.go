package least

import (
	"slices"

	"gumshoe/api"
	"gumshoe/bits"
)

// maxMark is the greatest mark that facts may tell of, one more than rules may.
const maxMark = api.MaxMark + 1

// areRight tells whether facts are, for a right system: of sorted ones those that come twice stand side by side, so that their topic's marks are no set.
func areRight(s api.System, l []api.Fact) bool {
	if !slices.IsSortedFunc(l, order) {
		return false
	}
	for of, marks := range topics(l) {
		if !isTopic(s, of) || !bits.Right(marks) || marks[len(marks)-1] > most(of) {
			return false
		}
	}
	return true
}

func isTopic(s api.System, of topic) bool {
	if of.kind != api.FProp && of.key != "" {
		return false
	}
	switch of.kind {
	case api.FProp, api.FProto, api.FCall, api.FAny:
		return isBelow(maxMark+1, of.a)
	case api.FEnter:
		return isBelow(len(s.Funs), of.a)
	case api.FIn:
		return isBelow(s.Sets, of.a)
	}
	return false
}

func isBelow(end int, n int) bool { return n >= 0 && n < end }

// most is the greatest B that facts of a topic may have.
func most(of topic) int {
	if of.kind == api.FEnter {
		return 0
	}
	return maxMark
}
