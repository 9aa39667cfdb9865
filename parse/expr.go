package parse

import "ratline/api"

// The levels of an expression, each by a function that calls the one of the next level for its operands; the strongest calls the weakest again, for what stands in brackets.

// expr reads an expression: what `||` joins.
func (r *reader) expr() api.Node {
	n := r.both()
	for o, ok := r.takeOperator(ofOr); ok; o, ok = r.takeOperator(ofOr) {
		n = o.node(n, r.both())
	}
	return n
}

// both reads what `&&` joins.
func (r *reader) both() api.Node {
	n := r.comparison()
	for o, ok := r.takeOperator(ofAnd); ok; o, ok = r.takeOperator(ofAnd) {
		n = o.node(n, r.comparison())
	}
	return n
}

// comparison reads a sum, or two that are compared: a third one is not.
func (r *reader) comparison() api.Node {
	n := r.sum()
	if o, ok := r.takeOperator(ofCompare); ok {
		n = o.node(n, r.sum())
	}
	return n
}

func (r *reader) sum() api.Node {
	n := r.product()
	for o, ok := r.takeOperator(ofSum); ok; o, ok = r.takeOperator(ofSum) {
		n = o.node(n, r.product())
	}
	return n
}

func (r *reader) product() api.Node {
	n := r.signed()
	for o, ok := r.takeOperator(ofProduct); ok; o, ok = r.takeOperator(ofProduct) {
		n = o.node(n, r.signed())
	}
	return n
}

// signed reads ops of one place, which stand ahead of their operand.
func (r *reader) signed() api.Node {
	o, ok := r.operator(ofAhead)
	if !ok {
		return r.indexed()
	}
	r.enter()
	defer r.leave()
	r.next()
	return o.node(r.signed())
}

func (r *reader) indexed() api.Node {
	n := r.single()
	for o, ok := r.operator(ofIndex); ok; o, ok = r.operator(ofIndex) {
		n = o.node(n, r.inBrackets("]"))
	}
	return n
}

// single reads what no operator joins.
func (r *reader) single() api.Node {
	switch {
	case r.isSign("("):
		return r.inBrackets(")")
	case r.isSign("["):
		return r.list()
	case r.isWord("nil"):
		r.next()
		return api.Node{Kind: api.ENil}
	case r.isCall():
		return r.call()
	}
	return r.literal()
}

// literal reads a single token that says what it means.
func (r *reader) literal() api.Node {
	switch r.ahead(0).Kind {
	case api.TInt:
		return api.Node{Kind: api.EInt, N: r.next().N}
	case api.TImag:
		return api.Node{Kind: api.EImag, N: r.next().N}
	case api.TText:
		return api.Node{Kind: api.EText, S: r.next().Text}
	case api.TName:
		return api.Node{Kind: api.EVar, S: r.next().Text}
	}
	r.fail(api.ErrSyntax)
	return api.Node{}
}

// isCall tells whether a name and a bracket are next.
func (r *reader) isCall() bool {
	return r.ahead(0).Kind == api.TName && is(r.ahead(1), api.TOp, "(")
}

// call reads a call, which is open from its name on.
func (r *reader) call() api.Node {
	r.enter()
	defer r.leave()
	name := r.name()
	r.sign("(")
	return api.Node{Kind: api.ECall, S: name, L: r.operands(")")}
}

func (r *reader) list() api.Node {
	r.enter()
	defer r.leave()
	r.sign("[")
	return api.Node{Kind: api.EList, L: r.operands("]")}
}

// operands reads expressions parted by commas, perhaps none, and the bracket behind them.
func (r *reader) operands(end string) (l []api.Node) {
	if r.takeSign(end) {
		return nil
	}
	l = append(l, r.expr())
	for r.takeSign(",") {
		l = append(l, r.expr())
	}
	r.sign(end)
	return l
}

// inBrackets reads an expression, and ahead of it the bracket that is next, and behind it the one that ends it.
func (r *reader) inBrackets(end string) api.Node {
	r.enter()
	defer r.leave()
	r.next()
	n := r.expr()
	r.sign(end)
	return n
}
