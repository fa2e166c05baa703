package least

import "gumshoe/api"

// Marks that are there from the first on.
const (
	markObject   = 0
	markFunction = 1
	markCall     = 2
	markApply    = 3
)

// keyPrototype is the key at which functions have what stands behind what they make.
const keyPrototype = "prototype"

// isTrue is what facts of functions that are entered have as B.
const isTrue = 0

func alone(mark int) topic { return topic{kind: just, a: mark} }

// always asks for what each system has.
func always(tell teller) {
	tell(entered(0), alone(isTrue))
	tell(prop(markFunction, "call"), alone(markCall))
	tell(prop(markFunction, "apply"), alone(markApply))
	tell(proto(markFunction), alone(markObject))
	tell(proto(markCall), alone(markFunction))
	tell(proto(markApply), alone(markFunction))
}

// rule is what a rule asks for, whose function is entered.
func (k *known) rule(r api.Rule) asking {
	switch r.Kind {
	case api.RObj:
		return func(tell teller) {
			tell(in(r.X), alone(r.M))
			tell(proto(r.M), alone(markObject))
		}
	case api.RFun:
		return closure(r.X, k.system.Funs[r.N].Mark)
	case api.RSub:
		return func(tell teller) { tell(in(r.Y), in(r.X)) }
	case api.RLoad:
		return func(tell teller) { tell(in(r.Y), topic{setAtKey, r.X, r.S}) }
	case api.RLoadX:
		return func(tell teller) { tell(in(r.Y), topic{kind: setAtAny, a: r.X}) }
	case api.RStore:
		return k.store(r, func(mark int) topic { return prop(mark, r.S) })
	case api.RAny:
		return k.store(r, anyKey)
	case api.RCall:
		return k.call(r)
	}
	return k.construct(r)
}

// closure asks for what a set has, and for what closures have.
func closure(set int, mark int) asking {
	return func(tell teller) {
		tell(in(set), alone(mark))
		tell(prop(mark, keyPrototype), alone(mark+1))
		tell(proto(mark), alone(markFunction))
		tell(proto(mark+1), alone(markObject))
	}
}

// store asks that what a rule's objects have somewhere is all that it puts there.
func (k *known) store(r api.Rule, where func(mark int) topic) asking {
	return func(tell teller) {
		for _, mark := range k.had[in(r.X)] {
			tell(where(mark), in(r.Y))
		}
	}
}
