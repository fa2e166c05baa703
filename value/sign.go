package value

import (
	"cmp"

	"gumshoe/api"
)

// Two is what a sign makes of two.
func Two(s string, a api.Val, b api.Val) (api.Val, api.Errno) {
	making, ok := makings()[s]
	if !ok {
		return api.Val{}, api.ErrSign
	}
	v := making(a, b)
	if len(v.S) > api.MaxBytes {
		return api.Val{}, api.ErrBig
	}
	return v, api.OK
}

// Neg is 0 without a value's number.
func Neg(v api.Val) api.Val { return number(-Num(v)) }

// Not is true, unless a value counts as true.
func Not(v api.Val) api.Val { return truth(!Truthy(v)) }

// makings are the signs, each with what it makes.
func makings() map[string]func(a api.Val, b api.Val) api.Val {
	return map[string]func(a api.Val, b api.Val) api.Val{
		"+":   sum,
		"-":   func(a api.Val, b api.Val) api.Val { return number(Num(a) - Num(b)) },
		"*":   func(a api.Val, b api.Val) api.Val { return number(Num(a) * Num(b)) },
		"<":   func(a api.Val, b api.Val) api.Val { return truth(order(a, b) < 0) },
		"<=":  func(a api.Val, b api.Val) api.Val { return truth(order(a, b) <= 0) },
		"===": func(a api.Val, b api.Val) api.Val { return truth(a == b) },
		"!==": func(a api.Val, b api.Val) api.Val { return truth(a != b) },
	}
}

func sum(a api.Val, b api.Val) api.Val {
	if a.Kind == api.VText || b.Kind == api.VText {
		return text(Key(a) + Key(b))
	}
	return number(Num(a) + Num(b))
}

// order is below 0 if a is ahead of b, above 0 if it is behind it.
func order(a api.Val, b api.Val) int {
	if a.Kind == api.VText && b.Kind == api.VText {
		return cmp.Compare(a.S, b.S)
	}
	return cmp.Compare(Num(a), Num(b))
}
