package code

import (
	"strconv"
	"strings"

	"gumshoe/api"
	"gumshoe/jlex"
)

// Show is a code's text.
func Show(l []api.Proc) (string, api.Errno) {
	if !Right(l) {
		return "", api.ErrCode
	}
	var text strings.Builder
	for _, p := range l {
		text.WriteString(line("proc", strconv.Itoa(p.Regs)))
		for _, i := range p.Ins {
			text.WriteString(line(words(i)...))
		}
	}
	return text.String(), api.OK
}

// words are those of an instruction's line. The registers' numbers, however many, end where the text's quote begins.
func words(i api.Ins) []string {
	l := digits(i.Op, i.D, i.A, i.B, i.C)
	l = append(l, strconv.FormatInt(i.N, 10))
	l = append(l, digits(i.L...)...)
	return append(l, jlex.Quote(i.S))
}

func digits(numbers ...int) []string {
	var l []string
	for _, n := range numbers {
		l = append(l, strconv.Itoa(n))
	}
	return l
}

func line(words ...string) string { return strings.Join(words, " ") + "\n" }
