package jlex

import (
	"strings"

	"gumshoe/api"
)

// hexDigits has no capitals: an escape is written, and read, with small letters alone.
const hexDigits = "0123456789abcdef"

// Quote is a text as a token.
func Quote(s string) string {
	out := []byte{'"'}
	for i := range len(s) {
		out = quotedByte(out, s[i])
	}
	return string(append(out, '"'))
}

func quotedByte(out []byte, c byte) []byte {
	switch {
	case c == '\n':
		return append(out, `\n`...)
	case c == '\t':
		return append(out, `\t`...)
	case c == '"' || c == '\\':
		out = append(out, '\\')
		fallthrough // behind it these two stand as they are
	case plain(c):
		return append(out, c)
	}
	return append(out, '\\', 'x', hexDigits[c>>4], hexDigits[c&15])
}

// text is the token with which s, that begins with `"` or `'`, begins, and how many bytes it has.
func text(s string) (api.Tok, int, api.Errno) {
	var out []byte
	for at := 1; at < len(s); {
		if s[at] == s[0] {
			return api.Tok{Kind: api.TText, S: string(out)}, at + 1, api.OK
		}
		c, n := said(s[at:])
		if n == 0 {
			break
		}
		out = append(out, c)
		at += n
	}
	return api.Tok{}, 0, api.ErrString
}

// said is the byte that the beginning of s says within a text, and how many bytes say it: none, if nothing is said so.
func said(s string) (byte, int) {
	switch {
	case strings.HasPrefix(s, `\n`):
		return '\n', 2
	case strings.HasPrefix(s, `\t`):
		return '\t', 2
	case longest(s, `\\`, `\"`, `\'`) != "":
		return s[1], 2
	case strings.HasPrefix(s, `\x`):
		return hexByte(s)
	case s[0] == '\\' || !plain(s[0]):
		return 0, 0
	}
	return s[0], 1
}

// hexByte is what said tells of an s that begins with `\x`.
func hexByte(s string) (byte, int) {
	if len(s) < len(`\x00`) {
		return 0, 0
	}
	high, low := strings.IndexByte(hexDigits, s[2]), strings.IndexByte(hexDigits, s[3])
	if high < 0 || low < 0 {
		return 0, 0
	}
	return byte(high<<4 | low), len(`\x00`)
}

func plain(c byte) bool { return c >= ' ' && c <= '~' }
