package jlex_test

import (
	"slices"
	"strings"
	"testing"

	"gumshoe/api"
	"gumshoe/jlex"
)

// P2.2: IsWord.
func TestIsWord(t *testing.T) {
	for _, s := range words {
		if !jlex.IsWord(s) {
			t.Errorf("IsWord(%q) is false", s)
		}
		for _, near := range []string{s + "s", s[1:], s[:len(s)-1], strings.ToUpper(s), " " + s, s + " ", s + "\n"} {
			if jlex.IsWord(near) != slices.Contains(words, near) {
				t.Errorf("IsWord(%q) is wrong", near)
			}
		}
	}
	for _, s := range append([]string{"", "0", "+", "in of", "\x00", "\xff"}, names...) {
		if jlex.IsWord(s) {
			t.Errorf("IsWord(%q) is true", s)
		}
	}
}

// P2.2: IsName.
func TestIsName(t *testing.T) {
	for _, s := range append([]string{strings.Repeat("a", 100000)}, names...) {
		if !jlex.IsName(s) {
			t.Errorf("IsName(%.40q) is false", s)
		}
	}
	for _, s := range append([]string{"", "0", "0a", "9", "a b", " a", "a ", "a\n", "a-b", "a.b", "+", "\"a\"", "\x00", "a\x00", "\xff", "a\xff", "é", "aé", "a#"}, words...) {
		if jlex.IsName(s) {
			t.Errorf("IsName(%q) is true", s)
		}
	}
}

// P2.2: of each byte, and each pair of a few, a name is just what is one token of that kind.
func TestIsNameLikeLex(t *testing.T) {
	for b := range 256 {
		for _, s := range []string{string([]byte{byte(b)}), "a" + string([]byte{byte(b)}), string([]byte{byte(b)}) + "a", "1" + string([]byte{byte(b)})} {
			l, _, _ := jlex.Lex(s)
			if got := jlex.IsName(s); got != (len(l) == 1 && l[0].Kind == api.TName && l[0].S == s) {
				t.Errorf("IsName(%q) is %v", s, got)
			}
		}
	}
}

// P2.2: Quote, byte by byte.
func TestQuote(t *testing.T) {
	const hex = "0123456789abcdef"
	short := map[byte]string{'"': `\"`, '\\': `\\`, '\n': `\n`, '\t': `\t`}
	for b := range 256 {
		c := byte(b)
		want := short[c]
		switch {
		case want != "":
		case c >= 0x20 && c <= 0x7e:
			want = string([]byte{c})
		default:
			want = `\x` + string([]byte{hex[c/16], hex[c%16]})
		}
		if got := jlex.Quote("a" + string([]byte{c}) + "b"); got != `"a`+want+`b"` {
			t.Errorf("Quote of %02x is %s", b, got)
		}
	}
	for s, want := range map[string]string{"": `""`, "a": `"a"`, "it's": `"it's"`, "\n\t\\\"\r": `"\n\t\\\"\x0d"`, "é": `"\xc3\xa9"`, "\\n": `"\\n"`, "\"\"": `"\"\""`} {
		if got := jlex.Quote(s); got != want {
			t.Errorf("Quote(%q) is %s", s, got)
		}
	}
}

// P2.3: a quoted text is one token, that says it.
func TestQuoteIsRead(t *testing.T) {
	for b := range 256 {
		for c := range 256 {
			s := string([]byte{byte(b), byte(c)})
			lexes(t, jlex.Quote(s), text(s))
		}
	}
	for _, s := range []string{"", "a", strings.Repeat("\\\"'\n\x00\xff", 3000), jlex.Quote(jlex.Quote("a\n\""))} {
		lexes(t, jlex.Quote(s), text(s))
	}
}

// P2.3, T5: unlike texts have unlike tokens.
func TestQuotesDiffer(t *testing.T) {
	met := map[string]string{}
	for _, a := range []string{"", "a", "\\", "\"", "n", "\n", "x", "0", "41", "\x41", "\t", "t"} {
		for _, b := range []string{"", "a", "\\", "\"", "n", "\n", "x0a", "\x00", "00"} {
			q := jlex.Quote(a + b)
			if was, ok := met[q]; ok && was != a+b {
				t.Errorf("Quote(%q) is that of %q", a+b, was)
			}
			met[q] = a + b
		}
	}
}

// piece is a token's text, and the token.
type piece struct {
	s string
	t api.Tok
}

func pieces() []piece {
	l := []piece{{"0", num(0)}, {"42", num(42)}, {"999999999999999", num(api.MaxNum)}, {`'a"\n'`, text("a\"\n")}, {`"'/*"`, text("'/*")}, {`""`, text("")}}
	for _, s := range names {
		l = append(l, piece{s, name(s)})
	}
	for _, s := range words {
		l = append(l, piece{s, word(s)})
	}
	for _, s := range signs {
		l = append(l, piece{s, sign(s)})
	}
	return l
}

// P2.3: what stands between tokens makes no difference but to lines and NL.
func TestGapsMakeNoDifference(t *testing.T) {
	all := pieces()
	gaps := []string{" ", "\t", "\r", "\n", " /**/", " // 'x\n", " /* \n\n */ ", "\n\n", " /*/*/ ", " \r\n\t", " //\n//\n", " /* \" ' # 1.5 // */"}
	x := uint32(7)
	pick := func(n int) int {
		x = x*1664525 + 1013904223
		return int(x>>8) % n
	}
	for range 2000 {
		s, line := "", 1
		var want []api.Tok
		for range pick(12) {
			gap, p := gaps[pick(len(gaps))], all[pick(len(all))]
			ended := strings.Count(gap, "\n")
			line += ended
			p.t.Line, p.t.NL = line, ended > 0
			s, want = s+gap+p.s, append(want, p.t)
		}
		lexes(t, s+gaps[pick(len(gaps))], want...)
	}
}
