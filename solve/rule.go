package solve

import "gumshoe/api"

// keyPrototype is the key at which functions have what stands behind what they make.
const keyPrototype = "prototype"

// begin adds what is always there; from then on rules are asked as their functions are entered.
func (v *solver) begin() {
	v.each(v.number(api.FEnter, 0), func(fun int) {
		for _, n := range v.rules[fun] {
			v.rule(v.system.Rules[n])
		}
	})
	v.add(v.number(api.FEnter, 0), 0)
	v.add(v.prop(markFunction, "call"), markCall)
	v.add(v.prop(markFunction, "apply"), markApply)
	v.add(v.proto(markFunction), markObject)
	v.add(v.proto(markCall), markFunction)
	v.add(v.proto(markApply), markFunction)
}

// began says of a new set what all of its kind have.
func (v *solver) began(n int, kind int, a int) {
	switch kind {
	case atAny:
		v.within(n, v.number(api.FAny, a))
		for _, prop := range v.keyed[a] {
			v.within(n, prop)
		}
	case api.FCall:
		v.each(n, func(mark int) { v.passed(n, mark) })
	case behindSet:
		v.within(n, a)
		v.close(n)
	case behindMark:
		v.add(n, a)
		v.close(n)
	case atMade:
		v.load(n, v.number(behindMark, a), keyPrototype)
	case calledBy:
		v.spread(n, a)
	}
}

// close says that a set has what stands behind its marks, too.
func (v *solver) close(n int) {
	v.each(n, func(mark int) { v.within(n, v.proto(mark)) })
}

// load says that a set has what others have at a key: those that stand behind them are among these.
func (v *solver) load(to int, all int, key string) {
	v.each(all, func(mark int) { v.within(to, v.prop(mark, key), v.number(api.FAny, mark)) })
}

// loadAny is load, whichever the key is.
func (v *solver) loadAny(to int, all int) {
	v.each(all, func(mark int) { v.within(to, v.number(atAny, mark)) })
}

// rule asks for what a rule does.
func (v *solver) rule(r api.Rule) {
	switch r.Kind {
	case api.RObj:
		v.add(r.X, r.M)
		v.add(v.proto(r.M), markObject)
	case api.RFun:
		v.closure(r.X, v.system.Funs[r.N].Mark)
	case api.RSub:
		v.within(r.Y, r.X)
	case api.RLoad:
		v.load(r.Y, v.number(behindSet, r.X), r.S)
	case api.RLoadX:
		v.loadAny(r.Y, v.number(behindSet, r.X))
	case api.RStore:
		v.each(r.X, func(mark int) { v.within(v.prop(mark, r.S), r.Y) })
	case api.RAny:
		v.each(r.X, func(mark int) { v.within(v.number(api.FAny, mark), r.Y) })
	case api.RCall:
		w := wayOf(r)
		v.each(r.X, func(mark int) { v.call(r.M, mark, w) })
	case api.RNew:
		w := wayOf(r)
		v.each(r.X, func(mark int) { v.construct(r, mark, w) })
	}
}

// closure says that a set has the mark of a function, and what its closures have.
func (v *solver) closure(n int, mark int) {
	v.add(n, mark)
	v.add(v.prop(mark, keyPrototype), mark+1)
	v.add(v.proto(mark), markFunction)
	v.add(v.proto(mark+1), markObject)
}
