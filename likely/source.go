// Package likely makes programs by choices that are handed in. No layer leans on it: it is what tests of several layers take their many likely programs from, each by a random source of its own.
package likely

import (
	"strconv"
	"strings"
)

// Choice answers a number from 0 up to n - 1, whichever it likes.
type Choice func(n int) int

// among is one of l.
func among[T any](choose Choice, l ...T) T {
	return l[choose(len(l))]
}

// mostLets keeps a function below the most locals that there may be, its parameters too.
const mostLets = 50

// Source is a program of five functions as a text: f0 to f3, which take as many operands, and main, in any order. Values are of the same kind more often than not, so that runs go on for a while. It may be too long, or too great for stack code.
func Source(choose Choice) string {
	var fns []string
	params := []string{"a", "b", "c"}
	for n, name := range []string{"f0", "f1", "f2", "f3", "main"} {
		w := writer{choose: choose, names: append([]string(nil), params[:n%4]...)}
		head := "fn " + name + "(" + strings.Join(w.names, ", ") + ") "
		fns = append(fns, head+w.block(3, false))
	}
	for n := range fns {
		other := n + choose(len(fns)-n)
		fns[n], fns[other] = fns[other], fns[n]
	}
	return strings.Join(fns, " ")
}

// writer writes one function.
type writer struct {
	choose Choice
	names  []string // those that are visible
	lets   int
}

func (w *writer) pick(l ...string) string { return among(w.choose, l...) }

func (w *writer) leaf() string {
	if len(w.names) > 0 && w.choose(2) == 0 {
		return w.pick(w.names...)
	}
	return w.pick("0", "1", "2", "3", "7", "1", "2", "3i", `"ab"`, `""`, "[]", "nil", "9223372036854775807")
}

func (w *writer) expr(deep int) string {
	if deep == 0 || w.choose(5) == 0 {
		return w.leaf()
	}
	e := func() string { return w.expr(deep - 1) }
	switch w.choose(14) {
	case 0:
		return "[" + e() + ", " + e() + "]"
	case 1, 2:
		return "(" + e() + w.pick(" && ", " || ") + e() + ")"
	case 3:
		return w.pick("!", "-") + w.leaf()
	case 4, 5:
		return w.pick("f0()", "f1("+e()+")", "f2("+e()+", "+e()+")", "f3("+e()+", "+e()+", "+e()+")", "main()")
	case 6:
		return w.pick("len(\"abc\" + "+e()+")", "push([1], "+e()+")", "cx(1, 2)", "re(2i)", "im("+e()+")", "conj("+e()+")", "push("+e()+", 1)")
	case 7:
		return w.pick("[1, \"x\", "+e()+"][2]", "[1]["+e()+"]", "\"abc\"["+e()+"]", e()+"[0]")
	case 8:
		return "(" + e() + w.pick(" - ", " * ", " / ", " % ", " > ", " <= ", " >= ") + e() + ")"
	}
	return "(" + e() + w.pick(" + ", " == ", " != ", " == ", " < ") + e() + ")"
}

func (w *writer) block(deep int, loop bool) string {
	s, visible := "{ ", len(w.names)
	for range 1 + w.choose(4) {
		s += w.statement(deep, loop) + " "
	}
	w.names = w.names[:visible]
	return s + "}"
}

func (w *writer) statement(deep int, loop bool) string {
	switch k := w.choose(10 + min(4, 4*deep)); {
	case k < 2 && w.lets < mostLets:
		e := w.expr(2)
		w.lets++
		name := "v" + strconv.Itoa(w.lets)
		w.names = append(w.names, name)
		return "let " + name + " = " + e + ";"
	case k < 5 && len(w.names) > 0:
		return w.pick(w.names...) + " = " + w.expr(2) + ";"
	case k == 5 && loop:
		return w.pick("break;", "continue;")
	case k == 6 && w.choose(2) == 0:
		return w.pick("return;", "return "+w.expr(2)+";", w.expr(2)+";")
	case k < 10:
		return "print " + w.expr(2) + ";"
	case k == 10:
		return "if " + w.expr(2) + " " + w.block(deep-1, loop)
	case k == 11:
		return "if " + w.expr(2) + " " + w.block(deep-1, loop) + " else " + w.block(deep-1, loop)
	}
	return "while " + w.expr(1) + " " + w.block(deep-1, true)
}
