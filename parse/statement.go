package parse

import "ratline/api"

// functions reads functions up to the source's end.
func (r *reader) functions() (l []api.Fun) {
	for !r.ended() {
		l = append(l, r.function())
	}
	return l
}

func (r *reader) function() api.Fun {
	r.word("fn")
	name := r.name()
	r.sign("(")
	params := r.params()
	return api.Fun{Name: name, Params: params, Body: r.block()}
}

// params reads names parted by commas, perhaps none, and the bracket behind them.
func (r *reader) params() (l []string) {
	if r.takeSign(")") {
		return nil
	}
	l = append(l, r.name())
	for r.takeSign(",") {
		l = append(l, r.name())
	}
	r.sign(")")
	return l
}

func (r *reader) block() api.Node {
	n := api.Node{Kind: api.NBlock}
	if !r.isSign("{") {
		r.fail(api.ErrSyntax)
		return n
	}
	r.enter()
	defer r.leave()
	r.next()
	for !r.ended() && !r.isSign("}") {
		n.L = append(n.L, r.statement())
	}
	r.sign("}")
	return n
}

func (r *reader) statement() api.Node {
	switch {
	case r.takeWord("let"):
		return r.named(api.NLet)
	case r.isSet():
		return r.named(api.NSet)
	case r.takeWord("if"):
		return r.choice()
	case r.takeWord("while"):
		return api.Node{Kind: api.NWhile, L: []api.Node{r.expr(), r.block()}}
	case r.takeWord("break"):
		return r.plain(api.NBreak)
	case r.takeWord("continue"):
		return r.plain(api.NContinue)
	case r.takeWord("return"):
		return r.answer()
	case r.takeWord("print"):
		return r.ofExpr(api.NPrint)
	}
	return r.ofExpr(api.NDo)
}

// isSet tells whether a name and `=` are next, with which no expression begins.
func (r *reader) isSet() bool {
	return r.ahead(0).Kind == api.TName && is(r.ahead(1), api.TOp, "=")
}

// named reads the rest of a statement that gives a name an expression's value.
func (r *reader) named(kind int) api.Node {
	name := r.name()
	r.sign("=")
	n := r.ofExpr(kind)
	n.S = name
	return n
}

// choice reads what stands behind `if`.
func (r *reader) choice() api.Node {
	n := api.Node{Kind: api.NIf, L: []api.Node{r.expr(), r.block()}}
	if r.takeWord("else") {
		n.L = append(n.L, r.other())
	}
	return n
}

// other reads what stands behind `else`.
func (r *reader) other() api.Node {
	if r.takeWord("if") {
		return api.Node{Kind: api.NBlock, L: []api.Node{r.choice()}}
	}
	return r.block()
}

// answer reads what stands behind `return`.
func (r *reader) answer() api.Node {
	if r.isSign(";") {
		return r.plain(api.NReturn)
	}
	return r.ofExpr(api.NReturn)
}

// plain reads the end of a statement that has nothing more.
func (r *reader) plain(kind int) api.Node {
	r.sign(";")
	return api.Node{Kind: kind}
}

// ofExpr reads an expression, and the end of the statement that has it.
func (r *reader) ofExpr(kind int) api.Node {
	n := api.Node{Kind: kind, L: []api.Node{r.expr()}}
	r.sign(";")
	return n
}
