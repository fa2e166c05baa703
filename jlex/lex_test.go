package jlex_test

import (
	"slices"
	"strings"
	"testing"

	"gumshoe/api"
	"gumshoe/jlex"
)

func name(s string) api.Tok { return api.Tok{Kind: api.TName, S: s, Line: 1} }

func word(s string) api.Tok { return api.Tok{Kind: api.TWord, S: s, Line: 1} }

func num(n int64) api.Tok { return api.Tok{Kind: api.TNum, N: n, Line: 1} }

func text(s string) api.Tok { return api.Tok{Kind: api.TText, S: s, Line: 1} }

func sign(s string) api.Tok { return api.Tok{Kind: api.TSign, S: s, Line: 1} }

// at puts a token on a line that another one ended ahead of it.
func at(line int, t api.Tok) api.Tok {
	t.Line, t.NL = line, true
	return t
}

// on puts a token on the line of the one ahead of it.
func on(line int, t api.Tok) api.Tok {
	t.Line = line
	return t
}

func lexes(t *testing.T, s string, want ...api.Tok) {
	t.Helper()
	if got, line, e := jlex.Lex(s); !slices.Equal(got, want) || line != 0 || e != api.OK {
		t.Errorf("Lex(%q) is %+v, %d, %d", s, got, line, e)
	}
}

func refuses(t *testing.T, s string, line int, want api.Errno) {
	t.Helper()
	if got, l, e := jlex.Lex(s); len(got) != 0 || l != line || e != want {
		if len(s) > 60 {
			s = s[:20] + ".." + s[len(s)-20:]
		}
		t.Errorf("Lex(%q) is %d tokens, %d, %d, not %d, %d", s, len(got), l, e, line, want)
	}
}

var words = strings.Fields("break case catch continue debugger default delete do else finally for function if in instanceof new return switch this throw try typeof var void while with null true false undefined input")

var signs = strings.Fields("{ } ( ) [ ] . ; , : ? < <= === !== = ! + - * / && ||")

var names = strings.Fields("a z A Z _ $ a0 $_9 aZ09_$ breaks Break BREAK in0 _in inn doo ni let const class get set eval arguments prototype of nul Input undefined0")

// P2.1: the chapter's example.
func TestLexExample(t *testing.T) {
	lexes(t, `x = 'a\n' // c`, name("x"), sign("="), text("a\n"))
	refuses(t, "1.5", 1, api.ErrFloat)
	refuses(t, "01", 1, api.ErrNumber)
	refuses(t, `"a`, 1, api.ErrString)
	refuses(t, "/*", 1, api.ErrComment)
	refuses(t, "#", 1, api.ErrChar)
	lexes(t, `'a\n\x41'`, text("\x61\x0a\x41"))
}

// P2.1: each name, word and sign by itself.
func TestLexAlone(t *testing.T) {
	for _, s := range names {
		lexes(t, s, name(s))
	}
	for _, s := range words {
		lexes(t, s, word(s))
	}
	for _, s := range signs {
		lexes(t, s, sign(s))
	}
}

// P2.1: a token is the longest one that stands there.
func TestLexLongest(t *testing.T) {
	lexes(t, "====", sign("==="), sign("="))
	lexes(t, "==", sign("="), sign("="))
	lexes(t, "======", sign("==="), sign("==="))
	lexes(t, "!==!=", sign("!=="), sign("!"), sign("="))
	lexes(t, "!===", sign("!=="), sign("="))
	lexes(t, "!!=", sign("!"), sign("!"), sign("="))
	lexes(t, "<=<==", sign("<="), sign("<="), sign("="))
	lexes(t, "<<===", sign("<"), sign("<="), sign("="), sign("="))
	lexes(t, "++--", sign("+"), sign("+"), sign("-"), sign("-"))
	lexes(t, "&&||&&&&", sign("&&"), sign("||"), sign("&&"), sign("&&"))
	lexes(t, "a.b[c](d)", name("a"), sign("."), name("b"), sign("["), name("c"), sign("]"), sign("("), name("d"), sign(")"))
	lexes(t, "varx var x", name("varx"), word("var"), name("x"))
	lexes(t, "in instanceof inst", word("in"), word("instanceof"), name("inst"))
	lexes(t, "a1b2-3", name("a1b2"), sign("-"), num(3))
	lexes(t, `x"y"'z'w`, name("x"), text("y"), text("z"), name("w"))
	lexes(t, `a/b*/c`, name("a"), sign("/"), name("b"), sign("*"), sign("/"), name("c"))
}

// P2.1: signs of which only a beginning stands there are none.
func TestLexHalfSigns(t *testing.T) {
	for _, s := range []string{"&", "|", "a & b", "a | b", "&&&", "|||", "&|", ">", "=>", ">=", "%", "^", "~", "@", "#", "`", `\`, "a\\"} {
		refuses(t, s, 1, api.ErrChar)
	}
}

// P2.1: bytes that begin no token, each of them.
func TestLexBytes(t *testing.T) {
	good := "abcdefghijklmnopqrstuvwxyzABCDEFGHIJKLMNOPQRSTUVWXYZ_$0123456789{}()[].;,:?<=!+-*/ \t\r\n"
	for b := range 256 {
		s := string([]byte{byte(b)})
		switch {
		case s == `"` || s == "'":
			refuses(t, s, 1, api.ErrString)
		case strings.Contains(good, s):
			if got, line, e := jlex.Lex(s); len(got) > 1 || line != 0 || e != api.OK {
				t.Errorf("Lex(%q) is %v, %d, %d", s, got, line, e)
			}
		default:
			refuses(t, s, 1, api.ErrChar)
			refuses(t, "a\n7"+s, 2, api.ErrChar)
			refuses(t, "a\nb"+s+"\n", 2, api.ErrChar)
		}
	}
}

// P2.1: numbers, to the greatest one.
func TestLexNumbers(t *testing.T) {
	lexes(t, "0", num(0))
	lexes(t, "7", num(7))
	lexes(t, "10", num(10))
	lexes(t, "0 0", num(0), num(0))
	lexes(t, "1234567890", num(1234567890))
	lexes(t, "999999999999999", num(api.MaxNum))
	lexes(t, "-1", sign("-"), num(1))
	lexes(t, "1+2", num(1), sign("+"), num(2))
	lexes(t, `1"a"2`, num(1), text("a"), num(2))
	lexes(t, "1 a", num(1), name("a"))
	lexes(t, "1/**/2", num(1), num(2))
	for _, s := range []string{"00", "01", "007", "1000000000000000", "9999999999999999999", "99999999999999999999999999", "0999999999999999", "1a", "0a", "0x1", "1_", "1$", "1e5", "12Z", "01a", "1000000000000000a", "1a.5", "01a.5", "x = 1n", strings.Repeat("9", 5000), strings.Repeat("0", 5000)} {
		refuses(t, s, 1, api.ErrNumber)
	}
}

// P2.1: a `.` right behind digits is told as such, be the digits right or not; elsewhere it is a sign.
func TestLexFloats(t *testing.T) {
	for _, s := range []string{"1.5", "01.5", "1.", "0.", "0.5", "00.", "1..p", "1.p", "1.a", "1000000000000000.5", "a[1.]", "a = 1.toString", "-1.5", strings.Repeat("9", 5000) + "."} {
		refuses(t, s, 1, api.ErrFloat)
	}
	lexes(t, ".5", sign("."), num(5))
	lexes(t, "1 .5", num(1), sign("."), num(5))
	lexes(t, "1/**/.p", num(1), sign("."), name("p"))
	lexes(t, "1\n.p", num(1), at(2, sign(".")), on(2, name("p")))
	lexes(t, "a1.b", name("a1"), sign("."), name("b"))
	lexes(t, "a1.5", name("a1"), sign("."), num(5))
	lexes(t, "a.1", name("a"), sign("."), num(1))
	refuses(t, ".5.5", 1, api.ErrFloat)
	refuses(t, "a.1b", 1, api.ErrNumber)
}

// P2.1: what a text may have within, by either sign.
func TestLexTexts(t *testing.T) {
	lexes(t, `""`, text(""))
	lexes(t, `''`, text(""))
	lexes(t, `'' ""`, text(""), text(""))
	lexes(t, `"'" '"'`, text("'"), text(`"`))
	lexes(t, `"\"" '\''`, text(`"`), text("'"))
	lexes(t, `"\'" '\"'`, text("'"), text(`"`))
	lexes(t, `'\\' "\\"`, text(`\`), text(`\`))
	lexes(t, `'\\\''`, text(`\'`))
	lexes(t, `"\n\t\\\"\'"`, text("\n\t\\\"'"))
	lexes(t, `'\x00\x0a\xff\x7f'`, text("\x00\x0a\xff\x7f"))
	lexes(t, `"\x411"`, text("A1"))
	lexes(t, `"// /* */"`, text("// /* */"))
	lexes(t, `"null" 'x'`, text("null"), text("x"))
	lexes(t, `"a"b"c"`, text("a"), name("b"), text("c"))
}

// P2.1: which bytes stand for themselves in a text: 20 to 7E, but its sign and `\`.
func TestLexTextBytes(t *testing.T) {
	for b := range 256 {
		c := string([]byte{byte(b)})
		for _, q := range []string{`"`, "'"} {
			s := q + "a" + c + "b" + q
			switch {
			case c == q: // it ends the text, and another one begins behind b
				refuses(t, s, 1, api.ErrString)
			case b < 0x20 || b > 0x7e || c == `\`:
				refuses(t, s, 1, api.ErrString)
			default:
				lexes(t, s, text("a"+c+"b"))
			}
		}
	}
}

// P2.1: which escapes there are: of one byte behind `\`, and of two digits behind `\x`.
func TestLexEscapes(t *testing.T) {
	one := map[byte]string{'n': "\n", 't': "\t", '\\': `\`, '"': `"`, '\'': "'"}
	for b := range 256 {
		s := `"\` + string([]byte{byte(b)}) + `."`
		if want := one[byte(b)]; want != "" {
			lexes(t, s, text(want+"."))
		} else {
			refuses(t, s, 1, api.ErrString)
		}
	}
	const hex = "0123456789abcdef"
	for b := range 256 {
		for c := range 256 {
			s := `'\x` + string([]byte{byte(b), byte(c)}) + `'`
			high, low := strings.IndexByte(hex, byte(b)), strings.IndexByte(hex, byte(c))
			if high >= 0 && low >= 0 {
				lexes(t, s, text(string([]byte{byte(high*16 + low)})))
			} else {
				refuses(t, s, 1, api.ErrString)
			}
		}
	}
}

// P2.1: texts that do not end, on the line on which they begin.
func TestLexOpenTexts(t *testing.T) {
	for _, s := range []string{`"`, "'", `"a`, `'a"`, `"a'`, `"\`, `"\"`, `'\x`, `'\x4`, `'\x41`, `'\x'`, `'\x4'`, `"a` + "\n" + `"`, `"\` + "\n" + `"`, `""'`, `"a" "`} {
		refuses(t, s, 1, api.ErrString)
		refuses(t, "a\n\n"+s, 3, api.ErrString)
	}
}

// P2.1: blanks and comments, and the lines that end within them.
func TestLexGaps(t *testing.T) {
	for _, s := range []string{"", " ", " \t\r\n", "//", "// a", "//\n", "/**/", "/***/", "/*/*/", "/* * / */", "/*\n*/", "//a\n//b", "/*\"*/", "// '", "// /*", "/*//*/", "/*\x00\xff#*/", "//\x00\xff#", "/* a */ /* b */\n"} {
		lexes(t, s)
	}
	lexes(t, "a\tb\rc d", name("a"), name("b"), name("c"), name("d"))
	lexes(t, "/*a*/b/*c*/d", name("b"), name("d"))
	lexes(t, "/**/a/***/b/****/", name("a"), name("b"))
	lexes(t, "a/*/b*/c", name("a"), name("c"))
	lexes(t, "/* // */ a", name("a"))
	lexes(t, "a // b // c", name("a"))
	lexes(t, "a //* b\nc", name("a"), at(2, name("c")))
	lexes(t, "a/ /b", name("a"), sign("/"), sign("/"), name("b"))
	lexes(t, "a///b", name("a"))
	lexes(t, "a /* b */ */", name("a"), sign("*"), sign("/"))
}

// P2.1: a token's line, and whether one ended ahead of it.
func TestLexLines(t *testing.T) {
	lexes(t, "a", name("a"))
	lexes(t, "\na", at(2, name("a")))
	lexes(t, "a\n\nb c", name("a"), at(3, name("b")), on(3, name("c")))
	lexes(t, "a\nb\nc", name("a"), at(2, name("b")), at(3, name("c")))
	lexes(t, "a\r\nb\rc", name("a"), at(2, name("b")), on(2, name("c")))
	lexes(t, "a // x\nb", name("a"), at(2, name("b")))
	lexes(t, "a /* x */ b", name("a"), name("b"))
	lexes(t, "a /*\n\n*/ b c", name("a"), at(3, name("b")), on(3, name("c")))
	lexes(t, "/*\n*/a", at(2, name("a")))
	lexes(t, "//\n\n1", at(3, num(1)))
	lexes(t, "'\\n' \"\\x0a\" a", text("\n"), text("\n"), name("a"))
	lexes(t, "return\n;", word("return"), at(2, sign(";")))
}

// P2.1: the first place where an error is met, and its line.
func TestLexFirstError(t *testing.T) {
	refuses(t, "a\n# 1.5", 2, api.ErrChar)
	refuses(t, "1.5 #", 1, api.ErrFloat)
	refuses(t, "a\n\n01 '", 3, api.ErrNumber)
	refuses(t, "' 01", 1, api.ErrString)
	refuses(t, "a\n/*\n\n", 2, api.ErrComment)
	refuses(t, "a /*\n#\n", 1, api.ErrComment)
	refuses(t, "/*\n*/ /*/", 2, api.ErrComment)
	refuses(t, "/*/", 1, api.ErrComment)
	refuses(t, "/* *", 1, api.ErrComment)
	refuses(t, "// #\n'a\n'", 2, api.ErrString)
	refuses(t, "\n\n1.\n", 3, api.ErrFloat)
	refuses(t, "/*\n\n*/#", 3, api.ErrChar)
	refuses(t, "a\n'b' # /*", 2, api.ErrChar)
	refuses(t, "1a 'b", 1, api.ErrNumber)
}

// P2.1: a text that is too long is refused, whatever stands in it; one of the greatest length is not.
func TestLexLongText(t *testing.T) {
	full := strings.Repeat("a", api.MaxText)
	lexes(t, full, name(full))
	refuses(t, full+"a", 0, api.ErrLong)
	refuses(t, strings.Repeat(" ", api.MaxText+1), 0, api.ErrLong)
	refuses(t, "#\n"+full, 0, api.ErrLong)
	lexes(t, strings.Repeat("\n", api.MaxText-1)+"a", at(api.MaxText, name("a")))
	lexes(t, "/*"+strings.Repeat("*", api.MaxText-4)+"*/")
	refuses(t, "/*"+strings.Repeat("/", api.MaxText-2), 1, api.ErrComment)
	refuses(t, `"`+strings.Repeat("a", api.MaxText-1), 1, api.ErrString)
	long := strings.Repeat("x", api.MaxText-2)
	lexes(t, `"`+long+`"`, text(long))
}

// P2.1: the 20001st token, if it is one.
func TestLexManyTokens(t *testing.T) {
	full := strings.Repeat(";", api.MaxToks)
	for _, s := range []string{full, full + " \n", full + "// a", full + "/*;*/", strings.Repeat("a ", api.MaxToks)} {
		if l, line, e := jlex.Lex(s); len(l) != api.MaxToks || line != 0 || e != api.OK {
			t.Errorf("%d tokens, %d, %d", len(l), line, e)
		}
	}
	refuses(t, full+";", 1, api.ErrLong)
	refuses(t, full+"a", 1, api.ErrLong)
	refuses(t, full+"\n\n'a'", 3, api.ErrLong)
	refuses(t, full+"/*\n*/ ;\n#", 2, api.ErrLong)
	refuses(t, full+"\n1 .5", 2, api.ErrLong)
	refuses(t, full+"\n#", 2, api.ErrChar)
	refuses(t, full+"\n/*", 2, api.ErrComment)
	refuses(t, full+"\n'", 2, api.ErrString)
	refuses(t, full+"\n01", 2, api.ErrNumber)
	refuses(t, full+"\n1.5", 2, api.ErrFloat)
	refuses(t, full[1:]+"\n#;", 2, api.ErrChar)
}

// R1: no text makes it panic, and what it answers has the shape that the chapter says.
func TestLexAnyText(t *testing.T) {
	const bytes = "a0.\"'\\x/*\n &=!#"
	for n := range 5 {
		all := 1
		for range n {
			all *= len(bytes)
		}
		for k := range all {
			var s []byte
			for range n {
				s = append(s, bytes[k%len(bytes)])
				k /= len(bytes)
			}
			checkShape(t, string(s))
		}
	}
}

func checkShape(t *testing.T, s string) {
	t.Helper()
	l, line, e := jlex.Lex(s)
	lines := strings.Count(s, "\n") + 1
	if e != api.OK && (len(l) != 0 || line < 1 || line > lines) || e == api.OK && line != 0 {
		t.Errorf("Lex(%q) is %v, %d, %d", s, l, line, e)
	}
	last := 1
	for _, k := range l {
		if k.NL != (k.Line > last) || k.Line < last || k.Line > lines {
			t.Errorf("Lex(%q) is %v", s, l)
		}
		last = k.Line
	}
}

// R3: no answer hangs on what was done to another one.
func TestLexIsNew(t *testing.T) {
	a, _, _ := jlex.Lex("a b")
	a = append(a, name("c"))
	a[0] = name("z")
	lexes(t, "a b", name("a"), name("b"))
}
