package code

import (
	"gumshoe/api"
	"gumshoe/value"
)

// room is what an instruction stands in: a proc of so many registers and places, one of so many procs.
type room struct{ registers, places, procs int }

// demand asks something of fields that an instruction names, and empties them: whatever is not empty behind all of its demands it does not name.
type demand func(i *api.Ins, in room) bool

// lowestMark is the first one that a program gives.
const lowestMark = 4

// none stands in the place of a register where there need not be one.
const none = -1

// table is what each operation asks for: what it has not is none.
func table() map[int][]demand {
	d := register(0, func(i *api.Ins) *int { return &i.D })
	a := register(0, func(i *api.Ins) *int { return &i.A })
	b := register(0, func(i *api.Ins) *int { return &i.B })
	c := register(0, func(i *api.Ins) *int { return &i.C })
	aOrNone := register(none, func(i *api.Ins) *int { return &i.A })
	bOrNone := register(none, func(i *api.Ins) *int { return &i.B })
	mark := number(func(n int64, _ room) bool { return n >= lowestMark && n <= api.MaxMark })
	place := number(func(n int64, in room) bool { return n >= 0 && n < int64(in.places) })
	function := number(func(n int64, in room) bool { return n > 0 && n < int64(in.procs) })
	variable := number(func(n int64, in room) bool {
		return n >= 0 && n/api.VarSpan < int64(in.procs) && n%api.VarSpan < api.MaxVars
	})
	return map[int][]demand{
		api.IVal:   {d, constant},
		api.IVar:   {d, variable},
		api.ISet:   {a, variable},
		api.IThis:  {d},
		api.IInput: {d},
		api.IObj:   {d, mark},
		api.IFun:   {d, function},
		api.IGet:   {d, a, key},
		api.IPut:   {a, key, b},
		api.IGetX:  {d, a, b},
		api.IPutX:  {a, b, c},
		api.ICall:  {d, a, bOrNone, arguments, mark},
		api.INew:   {d, a, arguments, mark},
		api.ITwo:   {d, a, sign, b},
		api.INot:   {d, a},
		api.INeg:   {d, a},
		api.IMove:  {d, a},
		api.IJump:  {place},
		api.IElse:  {a, place},
		api.IRet:   {aOrNone},
		api.IThrow: {a},
		api.ITry:   {d, place},
		api.IEnd:   {},
		api.ISelf:  {d},
		api.IKeys:  {d, a},
		api.INext:  {d, a, place},
	}
}

// fits tells whether an instruction has what is asked of it, and nothing else.
func fits(i api.Ins, in room, asked []demand) bool {
	for _, holds := range asked {
		if !holds(&i, in) {
			return false
		}
	}
	return sameIns(i, api.Ins{Op: i.Op})
}

// register asks that a field is one, or none, if that is not less than least.
func register(least int, field func(i *api.Ins) *int) demand {
	return func(i *api.Ins, in room) bool {
		n := *field(i)
		*field(i) = 0
		return n >= least && n < in.registers
	}
}

// number asks that N is allowed.
func number(allows func(n int64, in room) bool) demand {
	return func(i *api.Ins, in room) bool {
		n := i.N
		i.N = 0
		return allows(n, in)
	}
}

// key takes any text.
func key(i *api.Ins, _ room) bool {
	i.S = ""
	return true
}

func sign(i *api.Ins, _ room) bool {
	_, e := value.Two(i.S, api.Val{}, api.Val{}) // no text comes of these: the sign alone can be wrong
	i.S = ""
	return e == api.OK
}

// constant asks for a value that needs no heap.
func constant(i *api.Ins, _ room) bool {
	v := api.Val{Kind: i.A, N: i.N, S: i.S}
	i.A, i.N, i.S = 0, 0, ""
	return v.Kind != api.VRef && value.Right(v)
}

func arguments(i *api.Ins, in room) bool {
	l := i.L
	i.L = nil
	for _, n := range l {
		if n < 0 || n >= in.registers {
			return false
		}
	}
	return true
}
