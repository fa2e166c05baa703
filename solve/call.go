package solve

import "gumshoe/api"

// way is how something is called: with which sets as this and as arguments, and where what it gives and throws comes to.
type way struct {
	this   []int
	args   []int
	every  bool // the arguments' sets are that of each parameter
	gives  int
	throws int
}

// arg are the sets of a parameter.
func (w way) arg(n int) []int {
	switch {
	case w.every:
		return w.args
	case n < len(w.args):
		return w.args[n : n+1]
	}
	return nil
}

// wayOf is how a rule calls; a construction's this is no set.
func wayOf(r api.Rule) way {
	w := way{args: r.L, gives: r.Y, throws: r.N}
	if r.Kind == api.RCall && r.Z != none {
		w.this = []int{r.Z}
	}
	return w
}

// device is the sets of call, or of apply: what is called, with what, what is given and thrown; and what the arguments are that it passes.
type device struct {
	this, args, gives, throws, passed int
}

// device is of the last sets of a system: call passes its arguments as they are, apply what they have.
func (v *solver) device(mark int) device {
	n := v.system.Sets - api.Spare
	if mark == markCall {
		return device{n, n + 1, n + 2, n + 3, n + 1}
	}
	n += 4
	return device{n, n + 1, n + 2, n + 3, n + 4}
}

// way is how a device calls.
func (d device) way() way {
	return way{this: []int{d.args}, args: []int{d.passed}, every: true, gives: d.gives, throws: d.throws}
}

// call asks for what the call of a number does that may call a mark.
func (v *solver) call(number int, mark int, w way) {
	if v.link(mark, w) {
		v.add(v.number(api.FCall, number), mark)
	}
}

// link tells whether a mark may be called, and says what is within what if it is.
func (v *solver) link(mark int, w way) bool {
	if mark == markCall || mark == markApply {
		d := v.device(mark)
		v.within(d.this, w.this...)
		v.within(d.args, w.args...)
		v.within(w.gives, d.gives)
		v.within(w.throws, d.throws)
		return true
	}
	for _, fun := range v.functions[mark] {
		v.enter(fun, w)
	}
	return len(v.functions[mark]) > 0
}

// enter says that a function is entered, and how.
func (v *solver) enter(fun int, w way) {
	f := v.system.Funs[fun]
	v.add(v.number(api.FEnter, 0), fun)
	v.within(f.This, w.this...)
	for n, param := range f.Params {
		v.within(param, w.arg(n)...)
	}
	v.within(w.gives, f.Ret)
	v.within(w.throws, f.Throw)
}

// passed says of a call of a device that it calls whatever the device does, with the same mark.
func (v *solver) passed(call int, mark int) {
	if mark == markCall || mark == markApply {
		v.within(call, v.number(calledBy, mark))
	}
}

// spread asks, once for all calls of a device, for what it calls, which a set then has.
func (v *solver) spread(n int, mark int) {
	d := v.device(mark)
	v.each(d.this, func(what int) {
		if v.link(what, d.way()) {
			v.add(n, what)
		}
	})
	if mark == markApply {
		v.loadAny(d.passed, v.number(behindSet, d.args))
	}
}

// construct asks for what a rule's construction by a mark does, which functions alone can.
func (v *solver) construct(r api.Rule, mark int, w way) {
	if len(v.functions[mark]) == 0 {
		return
	}
	v.add(r.Y, r.M)
	v.add(v.proto(r.M), markObject)
	v.within(v.proto(r.M), v.number(atMade, mark))
	v.add(v.number(api.FCall, r.M), mark)
	for _, fun := range v.functions[mark] {
		v.enter(fun, w)
		v.add(v.system.Funs[fun].This, r.M)
	}
}
