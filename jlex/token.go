package jlex

import (
	"strconv"
	"strings"

	"gumshoe/api"
)

// IsWord tells whether s is a word.
func IsWord(s string) bool {
	_, ok := words()[s]
	return ok
}

// IsName tells whether s is a name's text.
func IsName(s string) bool {
	return s != "" && letter(s[0]) && run(s, nameByte) == len(s) && !IsWord(s)
}

func words() map[string]struct{} {
	return map[string]struct{}{
		"break": {}, "case": {}, "catch": {}, "continue": {}, "debugger": {}, "default": {}, "delete": {},
		"do": {}, "else": {}, "finally": {}, "for": {}, "function": {}, "if": {}, "in": {}, "instanceof": {},
		"new": {}, "return": {}, "switch": {}, "this": {}, "throw": {}, "try": {}, "typeof": {}, "var": {},
		"void": {}, "while": {}, "with": {}, "null": {}, "true": {}, "false": {}, "undefined": {}, "input": {},
	}
}

// first is the token with which s, that is not empty, begins, but for its line, and how many bytes it has.
func first(s string, known map[string]struct{}) (api.Tok, int, api.Errno) {
	switch c := s[0]; {
	case letter(c):
		t, n := named(s, known)
		return t, n, api.OK
	case digit(c):
		return number(s)
	case c == '"' || c == '\'':
		return text(s)
	}
	return sign(s)
}

func named(s string, known map[string]struct{}) (api.Tok, int) {
	n := run(s, nameByte)
	t := api.Tok{Kind: api.TName, S: strings.Clone(s[:n])} // a copy, lest a name keep the whole text
	if _, ok := known[t.S]; ok {
		t.Kind = api.TWord
	}
	return t, n
}

func number(s string) (api.Tok, int, api.Errno) {
	n := run(s, digit)
	v, ok := amount(s[:n])
	switch behind := s[n:]; {
	case behind != "" && behind[0] == '.': // a point is told of wrong digits, too
		return api.Tok{}, 0, api.ErrFloat
	case !ok || behind != "" && letter(behind[0]):
		return api.Tok{}, 0, api.ErrNumber
	}
	return api.Tok{Kind: api.TNum, N: v}, n, api.OK
}

// amount is the number that digits write, if they may.
func amount(s string) (int64, bool) {
	if len(s) > 1 && s[0] == '0' {
		return 0, false
	}
	v, err := strconv.ParseInt(s, 10, 64)
	if err != nil || v > api.MaxNum {
		return 0, false
	}
	return v, true
}

func sign(s string) (api.Tok, int, api.Errno) {
	t := longest(s, "{", "}", "(", ")", "[", "]", ".", ";", ",", ":", "?", "<", "<=", "===", "!==", "=", "!", "+", "-", "*", "/", "&&", "||")
	if t == "" {
		return api.Tok{}, 0, api.ErrChar
	}
	return api.Tok{Kind: api.TSign, S: t}, len(t), api.OK
}

// longest is the longest sign with which s begins, empty if none does.
func longest(s string, signs ...string) string {
	best := ""
	for _, t := range signs {
		if len(t) > len(best) && strings.HasPrefix(s, t) {
			best = t
		}
	}
	return best
}

// run is how many bytes at the beginning of s are such ones.
func run(s string, such func(c byte) bool) int {
	for i := range len(s) {
		if !such(s[i]) {
			return i
		}
	}
	return len(s)
}

func letter(c byte) bool {
	return c >= 'a' && c <= 'z' || c >= 'A' && c <= 'Z' || c == '_' || c == '$'
}

func digit(c byte) bool { return c >= '0' && c <= '9' }

func nameByte(c byte) bool { return letter(c) || digit(c) }
