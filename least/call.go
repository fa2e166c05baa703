package least

import "gumshoe/api"

// none stands in the place of a this where there is none.
const none = -1

// way is how something is called: what is this, what are the arguments, and which sets what it gives and throws comes to.
type way struct {
	this   []topic
	args   []topic
	every  bool // the arguments are each parameter's
	gives  int
	throws int
}

// arg is what a parameter has.
func (w way) arg(n int) []topic {
	switch {
	case w.every:
		return w.args
	case n < len(w.args):
		return w.args[n : n+1]
	}
	return nil
}

func wayOf(r api.Rule, this ...topic) way {
	w := way{this: this, gives: r.Y, throws: r.N}
	for _, set := range r.L {
		w.args = append(w.args, in(set))
	}
	return w
}

// device is the sets of call, or of apply: what is called, with what, what is given and thrown; and what the arguments are that it passes.
type device struct {
	this, args, gives, throws, passed int
}

// device is of the last sets of a system: call passes its arguments as they are, apply what they have.
func (k *known) device(mark int) device {
	n := k.system.Sets - api.Spare
	if mark == markCall {
		return device{n, n + 1, n + 2, n + 3, n + 1}
	}
	n += 4
	return device{n, n + 1, n + 2, n + 3, n + 4}
}

// call asks for what a rule's call does.
func (k *known) call(r api.Rule) asking {
	w := wayOf(r)
	if r.Z != none {
		w.this = []topic{in(r.Z)}
	}
	return func(tell teller) {
		tell(calls(r.M), topic{kind: setCalled, a: r.X})
		k.enterAll(r.X, w, tell)
	}
}

// construct asks for what a rule's construction does, which functions alone can.
func (k *known) construct(r api.Rule) asking {
	w := wayOf(r, alone(r.M))
	return func(tell teller) {
		for _, mark := range k.had[in(r.X)] {
			if len(k.functions[mark]) > 0 {
				tell(in(r.Y), alone(r.M))
				tell(proto(r.M), alone(markObject), topic{atKey, mark, keyPrototype})
				tell(calls(r.M), alone(mark))
				k.enter(mark, w, tell)
			}
		}
	}
}

// passed asks for what call, or apply, calls in its turn, if it is called: but for the calls' numbers all are alike.
func (k *known) passed(mark int) asking {
	d := k.device(mark)
	numbers := k.callers[mark]
	return func(tell teller) {
		for _, n := range numbers {
			tell(calls(n), topic{kind: setCalled, a: d.this})
		}
		if len(numbers) == 0 {
			return
		}
		w := way{this: []topic{in(d.args)}, args: []topic{in(d.passed)}, every: true, gives: d.gives, throws: d.throws}
		k.enterAll(d.this, w, tell)
		if mark == markApply {
			tell(in(d.passed), topic{kind: setAtAny, a: d.args})
		}
	}
}

// enterAll asks for what follows where all marks of a set are called in a way.
func (k *known) enterAll(set int, w way, tell teller) {
	for _, mark := range k.had[in(set)] {
		k.enter(mark, w, tell)
	}
}

// enter asks for what follows where a mark is called in a way, but for the call itself.
func (k *known) enter(mark int, w way, tell teller) {
	if isDevice(mark) {
		d := k.device(mark)
		tell(in(d.this), w.this...)
		tell(in(d.args), w.args...)
		tell(in(w.gives), in(d.gives))
		tell(in(w.throws), in(d.throws))
	}
	for _, n := range k.functions[mark] {
		f := k.system.Funs[n]
		tell(entered(n), alone(isTrue))
		tell(in(f.This), w.this...)
		for i, param := range f.Params {
			tell(in(param), w.arg(i)...)
		}
		tell(in(w.gives), in(f.Ret))
		tell(in(w.throws), in(f.Throw))
	}
}
