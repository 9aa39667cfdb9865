package parse

import (
	"strconv"
	"strings"

	"ratline/api"
)

// mostNodes is how many nodes a text tells at most: each has a word of its own, and a blank parts two words.
const mostNodes = (api.MaxText + 1) / 2

// writer lays down words, parted by single blanks. Once there can be no text any more it goes on with nothing.
type writer struct {
	text  []byte
	nodes int
	wrong bool
}

// told is the text, if there is one.
func (w *writer) told() (string, bool) {
	if w.wrong {
		return "", false
	}
	return string(w.text), true
}

func (w *writer) fail() {
	w.wrong = true
}

func (w *writer) words(l ...string) {
	for _, s := range l {
		w.word(s)
	}
}

func (w *writer) word(s string) {
	blank := min(1, len(w.text))
	if len(w.text)+blank+len(s) > api.MaxText {
		w.fail()
		return
	}
	w.text = append(w.text, " "[:blank]...)
	w.text = append(w.text, s...)
}

// enter tells whether one more node may be gone into. It ends whatever is too deep to be gone through, and what holds itself.
func (w *writer) enter() bool {
	w.nodes++
	if w.nodes > mostNodes {
		w.fail()
	}
	return !w.wrong
}

// expr lays down n, in a place that asks for that level at least.
func (w *writer) expr(n api.Node, least int) {
	if !w.enter() {
		return
	}
	switch n.Kind {
	case api.EBin, api.EAnd, api.EOr, api.EUn:
		w.operation(n, least)
	case api.EInt:
		w.words(strconv.FormatInt(n.N, 10))
	case api.EImag:
		w.words(strconv.FormatInt(n.N, 10) + "i")
	case api.EText:
		w.quoted(n.S)
	case api.ENil:
		w.words("nil")
	case api.EVar:
		w.words(n.S)
	case api.ECall:
		w.words(n.S)
		w.operands("(", n.L, ")")
	case api.EList:
		w.operands("[", n.L, "]")
	default:
		w.fail()
	}
}

func (w *writer) operation(n api.Node, least int) {
	o, ok := ofNode(n.Kind, n.Op)
	if !ok || len(n.L) != o.places() {
		w.fail()
		return
	}
	if o.level >= least {
		w.joined(o, n.L)
		return
	}
	w.words("(")
	w.joined(o, n.L)
	w.words(")")
}

// joined lays down an operator and its operands, l.
func (w *writer) joined(o operator, l []api.Node) {
	switch o.level {
	case ofAhead:
		w.words(o.sign)
		w.expr(l[0], ofAhead)
	case ofIndex:
		w.expr(l[0], ofIndex)
		w.words("[")
		w.expr(l[1], weakest)
		w.words("]")
	case ofCompare:
		w.expr(l[0], ofCompare+1)
		w.words(o.sign)
		w.expr(l[1], ofCompare+1)
	default:
		w.expr(l[0], o.level)
		w.words(o.sign)
		w.expr(l[1], o.level+1)
	}
}

func (w *writer) operands(begin string, l []api.Node, end string) {
	w.words(begin)
	for i := 0; i < len(l) && !w.wrong; i++ {
		w.comma(i)
		w.expr(l[i], weakest)
	}
	w.words(end)
}

// comma parts what stands at place i of a list from what stands ahead of it.
func (w *writer) comma(i int) {
	if i > 0 {
		w.words(",")
	}
}

func (w *writer) quoted(s string) {
	if len(s) > api.MaxText {
		w.fail()
		return
	}
	signs := strings.NewReplacer("\\", "\\\\", "\"", "\\\"", "\n", "\\n")
	w.words("\"" + signs.Replace(s) + "\"")
}

func (w *writer) functions(l []api.Fun) {
	for i := 0; i < len(l) && !w.wrong; i++ {
		w.words("fn", l[i].Name)
		w.params(l[i].Params)
		w.block(l[i].Body)
	}
}

func (w *writer) params(l []string) {
	w.words("(")
	for i := 0; i < len(l) && !w.wrong; i++ {
		w.comma(i)
		w.words(l[i])
	}
	w.words(")")
}

func (w *writer) block(n api.Node) {
	if n.Kind != api.NBlock {
		w.fail()
		return
	}
	if !w.enter() {
		return
	}
	w.words("{")
	for i := 0; i < len(n.L) && !w.wrong; i++ {
		w.statement(n.L[i])
	}
	w.words("}")
}

func (w *writer) statement(n api.Node) {
	if !w.enter() {
		return
	}
	switch n.Kind {
	case api.NLet:
		w.words("let", n.S, "=")
		w.end(n.L)
	case api.NSet:
		w.words(n.S, "=")
		w.end(n.L)
	case api.NIf:
		w.choice(n.L)
	case api.NWhile:
		w.guarded("while", n.L)
	case api.NBreak:
		w.words("break", ";")
	case api.NContinue:
		w.words("continue", ";")
	case api.NReturn:
		w.answer(n.L)
	case api.NPrint:
		w.words("print")
		w.end(n.L)
	case api.NDo:
		w.end(n.L)
	default:
		w.fail()
	}
}

// end lays down the expression that l is, and the end of the statement.
func (w *writer) end(l []api.Node) {
	if len(l) != 1 {
		w.fail()
		return
	}
	w.expr(l[0], weakest)
	w.words(";")
}

func (w *writer) answer(l []api.Node) {
	w.words("return")
	if len(l) == 0 {
		w.words(";")
		return
	}
	w.end(l)
}

// guarded lays down a word, an expression and a block, which l are.
func (w *writer) guarded(word string, l []api.Node) {
	if len(l) != 2 {
		w.fail()
		return
	}
	w.words(word)
	w.expr(l[0], weakest)
	w.block(l[1])
}

// choice lays down an if; l may have a third, its else.
func (w *writer) choice(l []api.Node) {
	if len(l) != 3 {
		w.guarded("if", l)
		return
	}
	w.guarded("if", l[:2])
	w.words("else")
	w.other(l[2])
}

// other lays down the block behind an else: one if alone stands there without brackets.
func (w *writer) other(n api.Node) {
	if n.Kind == api.NBlock && len(n.L) == 1 && n.L[0].Kind == api.NIf {
		w.statement(n.L[0])
		return
	}
	w.block(n)
}
