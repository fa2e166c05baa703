package jread

import (
	"iter"
	"slices"

	"gumshoe/api"
)

// tokens are read one by one, up to the first error: behind it there are none.
type tokens struct {
	l     []api.Tok
	at    int
	fault api.Errno
	line  int // of the error
}

func (t *tokens) ended() bool { return t.fault != api.OK || t.at == len(t.l) }

// here is the token that is to be read next, an empty one if there is none.
func (t *tokens) here() api.Tok {
	if t.ended() {
		return api.Tok{}
	}
	return t.l[t.at]
}

// ahead goes through the tokens that are still to be read: its body reads each of them, or ends it.
func (t *tokens) ahead() iter.Seq[api.Tok] {
	return func(yield func(k api.Tok) bool) {
		for !t.ended() && yield(t.here()) {
		}
	}
}

// next reads the token here.
func (t *tokens) next() api.Tok {
	k := t.here()
	if !t.ended() {
		t.at++
	}
	return k
}

// of tells whether a token of one of these kinds stands here.
func (t *tokens) of(kinds ...int) bool { return slices.Contains(kinds, t.here().Kind) }

// said is the word, or the sign, that stands here: empty, if none does.
func (t *tokens) said() string {
	if t.of(api.TWord, api.TSign) {
		return t.here().S
	}
	return ""
}

// stands tells whether one of these words and signs stands here.
func (t *tokens) stands(l ...string) bool { return slices.Contains(l, t.said()) }

// take reads one of these words and signs, if one stands here.
func (t *tokens) take(l ...string) bool {
	if !t.stands(l...) {
		return false
	}
	t.next()
	return true
}

// must reads these words and signs, one behind the other.
func (t *tokens) must(l ...string) {
	for _, s := range l {
		if !t.take(s) {
			t.refuse(t.wrong(api.ErrOther))
		}
	}
}

// mustBe reads a token of one of these kinds.
func (t *tokens) mustBe(kinds ...int) api.Tok {
	if !t.of(kinds...) {
		t.refuse(t.wrong(api.ErrOther))
	}
	return t.next()
}

// end reads what ends a statement, which may be nothing.
func (t *tokens) end() {
	if !t.take(";") && !t.ended() && !t.stands("}") && !t.here().NL {
		t.refuse(t.wrong(api.ErrOther))
	}
}

// behind tells whether that sign was read just now.
func (t *tokens) behind(sign string) bool {
	if t.at == 0 {
		return false
	}
	k := t.l[t.at-1]
	return k.Kind == api.TSign && k.S == sign
}

// refuse tells the first error, at the token here. Nothing is wrong with a token when all were read: there it is ErrParse.
func (t *tokens) refuse(e api.Errno) {
	switch {
	case t.fault != api.OK:
		return
	case t.at < len(t.l):
		t.line = t.l[t.at].Line
	case t.at > 0:
		t.line, e = t.l[t.at-1].Line, api.ErrParse
	default:
		e = api.ErrParse
	}
	t.fault = e
}

// wrong is the error of the token here, with which nothing goes on; of a `/` it is that one, since where a thing may begin it would be a regular expression's.
func (t *tokens) wrong(slash api.Errno) api.Errno {
	switch {
	case t.stands("with"):
		return api.ErrWith
	case t.stands("case", "debugger", "default", "delete", "do", "finally", "instanceof", "switch", "typeof", "void"):
		return api.ErrOther
	case t.stands("/"):
		return slash
	}
	return api.ErrParse
}
