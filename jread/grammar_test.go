package jread_test

import (
	"slices"
	"strings"
	"testing"

	"gumshoe/api"
	"gumshoe/jread"
	"gumshoe/jtree"
)

// grammar is the chapter's, a line for each of its words. ID is a name that may be an expression, LINE and the like are nothing, where the next token allows that.
const grammar = `
Program = Statements
Statements = | Statements ; | Statements Statement
Statement = Block | var NAME End | var NAME = Expression End | if ( Expression ) Inner | if ( Expression ) Inner else Inner
Statement = while ( Expression ) Inner | For | return End | return VALUE Expression End | throw SAMELINE Expression End
Statement = try Block catch ( NAME ) Block | break End | continue End | function NAME Rest | PLAIN Expression End
For = for ( var NAME in Expression ) Inner
Inner = ; | Statement
Block = { Statements }
End = ; | CLOSE | LINE
Rest = ( ) Block | ( Names ) Block
Names = NAME | Names , NAME
Expression = Choice | ID = Expression | Target = Expression
Target = Whole . KEY | Whole [ Expression ]
Choice = Or | Or ? Expression : Expression
Or = And | Or || And
And = Equal | And && Equal
Equal = Less | Equal === Less | Equal !== Less
Less = Sum | Less < Sum | Less <= Sum
Sum = Product | Sum + Product | Sum - Product
Product = Signed | Product * Signed
Signed = ! Signed | - Signed | Chain
Chain = Whole | new Callee
Whole = Thing | new Callee Arguments | Target | Whole Arguments
Arguments = ( ) | ( Expressions )
Expressions = Expression | Expressions , Expression
Callee = Thing | Callee . KEY | Callee [ Expression ]
Thing = ID | NUM | TEXT | true | false | null | undefined | this | input | ( Expression ) | function Rest | function NAME Rest | { } | { Pairs } | { Pairs , }
Pairs = Pair | Pairs , Pair
Pair = PLACE : Expression
PLACE = NAME | WORD | TEXT | NUM
`

// rule is one way in which a word of the grammar may be written.
type rule struct {
	word  string
	parts []string
}

func rules() []rule {
	var l []rule
	for _, line := range strings.Split(strings.TrimSpace(grammar), "\n") {
		word, ways, _ := strings.Cut(line, " = ")
		for _, way := range strings.Split(" "+ways+" ", " | ") {
			l = append(l, rule{word, strings.Fields(way)})
		}
	}
	return l
}

// state is a rule that is written up to a place, from a token on.
type state struct{ rule, at, from int }

// chart knows by which states the tokens that were read are the beginning of a program: an answer that hangs on no order of reading.
type chart struct {
	rules []rule
	of    map[string][]int
	read  []api.Tok
	sets  [][]state // those ahead of each token that was read
	open  []state   // what the last token leads to
}

func newChart() *chart {
	c := &chart{rules: rules(), of: map[string][]int{}, open: []state{{0, 0, 0}}}
	for i, r := range c.rules {
		c.of[r.word] = append(c.of[r.word], i)
	}
	return c
}

// next is what a state goes on with, empty if it is done.
func (c *chart) next(s state) string {
	if parts := c.rules[s.rule].parts; s.at < len(parts) {
		return parts[s.at]
	}
	return ""
}

// nothing tells whether a part is nothing, with such a token behind it, or the end.
func nothing(part string, k *api.Tok, lines bool) bool {
	sign := k != nil && k.Kind == api.TSign
	switch part {
	case "CLOSE":
		return k == nil || sign && k.S == "}"
	case "LINE":
		return lines && k != nil && k.NL
	case "SAMELINE":
		return k != nil && !k.NL
	case "VALUE":
		return k != nil && !k.NL && !(sign && (k.S == ";" || k.S == "}"))
	case "PLAIN":
		return k == nil || !(sign && k.S == "{") && !(k.Kind == api.TWord && k.S == "function")
	}
	return false
}

func matches(part string, k api.Tok) bool {
	switch part {
	case "ID":
		return k.Kind == api.TName && k.S != "eval" && k.S != "arguments"
	case "NAME":
		return k.Kind == api.TName
	case "WORD":
		return k.Kind == api.TWord
	case "KEY":
		return k.Kind == api.TName || k.Kind == api.TWord
	case "NUM":
		return k.Kind == api.TNum
	case "TEXT":
		return k.Kind == api.TText
	}
	return (k.Kind == api.TWord || k.Kind == api.TSign) && k.S == part
}

// closed are the states ahead of the token k, or of the end.
func (c *chart) closed(k *api.Tok, lines bool) []state {
	here, all, met := len(c.read), slices.Clone(c.open), map[state]bool{}
	for _, s := range all {
		met[s] = true
	}
	add := func(s state) {
		if !met[s] {
			met[s] = true
			all = append(all, s)
		}
	}
	empty := map[string]bool{}
	for i := 0; i < len(all); i++ {
		s := all[i]
		part := c.next(s)
		if nothing(part, k, lines) || empty[part] {
			add(state{s.rule, s.at + 1, s.from})
		}
		for _, r := range c.of[part] {
			add(state{r, 0, here})
		}
		if part != "" {
			continue
		}
		word := c.rules[s.rule].word
		waiting := all
		if s.from < here {
			waiting = c.sets[s.from]
		} else {
			empty[word] = true
		}
		for _, w := range waiting {
			if c.next(w) == word {
				add(state{w.rule, w.at + 1, w.from})
			}
		}
	}
	return all
}

// ahead are the states ahead of a token: a line's end ends a statement only where the token does not go on with it.
func (c *chart) ahead(k api.Tok) ([]state, []state) {
	for _, lines := range []bool{false, true} {
		all := c.closed(&k, lines)
		var after []state
		for _, s := range all {
			if part := c.next(s); part != "" && c.of[part] == nil && matches(part, k) {
				after = append(after, state{s.rule, s.at + 1, s.from})
			}
		}
		if len(after) > 0 || lines {
			return all, after
		}
	}
	return nil, nil
}

// take reads a token, if a program begins with it.
func (c *chart) take(k api.Tok) bool {
	all, after := c.ahead(k)
	if len(after) == 0 {
		return false
	}
	c.read, c.sets, c.open = append(c.read, k), append(c.sets, all), after
	return true
}

// whole tells whether what was read is a program.
func (c *chart) whole() bool {
	return slices.Contains(c.closed(nil, false), state{0, 1, 0})
}

// waits tells whether one of the states goes on with that part.
func (c *chart) waits(l []state, part string) bool {
	return slices.ContainsFunc(l, func(s state) bool { return c.next(s) == part })
}

// fault is the error of a token that take does not read.
func (c *chart) fault(k api.Tok) api.Errno {
	all, _ := c.ahead(k)
	var was api.Tok
	var before []state
	if last := len(c.read) - 1; last >= 0 {
		was, before = c.read[last], c.sets[last]
	}
	word := func(l ...string) bool { return k.Kind == api.TWord && slices.Contains(l, k.S) }
	switch {
	case k.Kind == api.TName && c.waits(all, "ID"):
		return api.ErrEval
	case k.Kind == api.TSign && k.S == ":" && was.Kind == api.TName && c.waits(before, "Statement"):
		return api.ErrLabel
	case k.Kind < api.TSign && was.Kind == api.TName && (was.S == "get" || was.S == "set") && c.waits(before, "Pair"):
		return api.ErrGetter
	case slices.ContainsFunc(all, func(s state) bool { return c.rules[s.rule].word == "For" && s.at == 2 }):
		return api.ErrOther
	case word("with"):
		return api.ErrWith
	case word("case", "debugger", "default", "delete", "do", "finally", "instanceof", "switch", "typeof", "void"):
		return api.ErrOther
	case k.Kind == api.TSign && k.S == "/" && c.waits(all, "Thing"):
		return api.ErrRegex
	case k.Kind == api.TSign && k.S == "/":
		return api.ErrOther
	}
	return api.ErrParse
}

// check holds the reader against the chart: with what was read, and with each token behind that.
func (c *chart) check(t *testing.T, l []api.Tok) {
	t.Helper()
	read := spread(c.read)
	n, line, e := jread.Parse(read)
	switch last := len(read) - 1; {
	case c.whole():
		if e != api.OK || line != 0 || !jtree.Right(n) {
			t.Fatalf("%+v is refused: %d, %d", c.read, line, e)
		}
	case e != api.ErrParse || n.Op != 0 || line != read[last].Line:
		t.Fatalf("%+v is %+v, %d, %d", c.read, n, line, e)
	}
	for _, k := range l {
		_, after := c.ahead(k)
		if len(after) > 0 {
			continue // it is asked for when it was read
		}
		want := c.fault(k)
		m := spread(append(read, k))
		if n, line, e := jread.Parse(m); e != want || line != m[len(m)-1].Line || n.Op != 0 {
			t.Fatalf("%+v with %+v is %+v, %d, %d, not %d", c.read, k, n, line, e, want)
		}
	}
}

// alphabet are tokens of each kind, with and without a line's end ahead of them.
func alphabet(t *testing.T) []api.Tok {
	l := lexed(t, "a eval get 1 'b' { } ( ) [ ] . ; , : ? < = === ! + - * / && || var if else while for in return throw try catch break function new this with typeof")
	for _, k := range l {
		k.NL = true
		l = append(l, k)
	}
	return l
}

// spell checks each list of tokens up to a length of which all but the last one begin a program.
func (c *chart) spell(t *testing.T, l []api.Tok, most int) {
	c.check(t, l)
	if most == 0 {
		return
	}
	for _, k := range l {
		was := *c
		if c.take(k) {
			c.spell(t, l, most-1)
		}
		*c = was
	}
}

// P4.1: all short lists of tokens.
func TestShortLists(t *testing.T) {
	newChart().spell(t, alphabet(t), 2)
	for _, s := range []string{"if (a) b", "if (a)", "x = {a: 1", "x = {get", "for (var k in", "function f(", "try { } catch (e)", "throw", "return a", "a.b", "(a)", "a\n+ b", "x = new a", "(function() { a", "a ? b"} {
		c := newChart()
		for _, k := range lexed(t, s) {
			if !c.take(k) {
				t.Fatalf("%q begins no program", s)
			}
		}
		c.spell(t, alphabet(t), 1)
	}
}

// P4.1, P4.2: long lists, at whose places each token is tried; what is read of them is told again by its text.
func TestLongLists(t *testing.T) {
	l, x, told := alphabet(t), uint32(11), 0
	for range 40 {
		c := newChart()
		for len(c.read) < 40 {
			c.check(t, l)
			if c.whole() {
				toldAgain(t, c.read)
				told++
			}
			for took := false; !took; {
				x = x*1664525 + 1013904223
				took = c.take(l[int(x>>8)%len(l)])
			}
		}
	}
	if told < 80 {
		t.Error("few programs were met:", told)
	}
}
