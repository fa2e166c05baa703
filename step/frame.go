package step

import (
	"gumshoe/api"
	"gumshoe/runs"
)

// frame is a function that was entered, as far as it has come.
type frame struct {
	*runs.Frame
	walks
	ins       []api.Ins
	at        int             // the place of the next instruction
	registers map[int]api.Val // those that have become something: the others are VUndef
	handlers  []handler
	over      bool
	returns   api.Val
}

// handler is where a frame goes on behind a throw: the register becomes what was thrown.
type handler struct{ register, place int }

// walks are what a frame walks through: by registers, the keys that are left.
type walks struct{ left map[int][]string }

// walk lets a register walk through keys.
func (w *walks) walk(register int, keys []string) {
	if w.left == nil {
		w.left = map[int][]string{}
	}
	w.left[register] = keys
}

// key is the next one that a register walks through, if there is one.
func (w *walks) key(register int) (string, bool) {
	l := w.left[register]
	if len(l) == 0 {
		return "", false
	}
	w.left[register] = l[1:]
	return l[0], true
}

// next is the next instruction.
func (f *frame) next() api.Ins {
	i := f.ins[f.at]
	f.at++
	return i
}

// values are those of registers.
func (f *frame) values(registers []int) []api.Val {
	l := make([]api.Val, len(registers))
	for i, r := range registers {
		l[i] = f.registers[r]
	}
	return l
}

// drop takes the last handler off, if there is one.
func (f *frame) drop() (handler, bool) {
	last := len(f.handlers) - 1
	if last < 0 {
		return handler{}, false
	}
	h := f.handlers[last]
	f.handlers = f.handlers[:last]
	return h, true
}
