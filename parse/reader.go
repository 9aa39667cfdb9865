package parse

import (
	"ratline/api"
	"ratline/lex"
)

// reader goes through the tokens of a source. Once a fault is found it stands at the source's end for good: nothing is there to be read any more, so that all who read come back, and the first fault is kept.
type reader struct {
	tokens []lex.Token // those not yet read
	length int
	open   int
	place  int
	e      api.Errno
}

func begin(s string) *reader {
	l, at, e := lex.Tokens(s)
	return &reader{tokens: l, length: len(s), place: at, e: e}
}

// fail tells that the token that is next does not stand there.
func (r *reader) fail(e api.Errno) {
	if r.e == api.OK {
		r.e, r.place = e, r.here()
	}
	r.tokens = nil
}

// here is where the token that is next begins.
func (r *reader) here() int {
	if len(r.tokens) == 0 {
		return r.length
	}
	return r.tokens[0].At
}

// ahead is the token that stands i behind the one that is next; its kind is none of a token's, if none stands there.
func (r *reader) ahead(i int) lex.Token {
	if i >= len(r.tokens) {
		return lex.Token{}
	}
	return r.tokens[i]
}

// next reads a token, whatever it is.
func (r *reader) next() lex.Token {
	t := r.ahead(0)
	r.tokens = r.tokens[min(1, len(r.tokens)):]
	return t
}

// ended tells whether nothing more is to be read.
func (r *reader) ended() bool {
	return len(r.tokens) == 0
}

func (r *reader) finish() {
	if !r.ended() {
		r.fail(api.ErrSyntax)
	}
}

func is(t lex.Token, kind int, text string) bool {
	return t.Kind == kind && t.Text == text
}

func (r *reader) isSign(sign string) bool {
	return is(r.ahead(0), api.TOp, sign)
}

func (r *reader) isWord(word string) bool {
	return is(r.ahead(0), api.TWord, word)
}

// takeSign reads that sign, if it is next.
func (r *reader) takeSign(sign string) bool {
	if !r.isSign(sign) {
		return false
	}
	r.next()
	return true
}

// takeWord reads that word, if it is next.
func (r *reader) takeWord(word string) bool {
	if !r.isWord(word) {
		return false
	}
	r.next()
	return true
}

// takeOperator reads an operator of that level, if one is next.
func (r *reader) takeOperator(level int) (operator, bool) {
	o, ok := r.operator(level)
	if ok {
		r.next()
	}
	return o, ok
}

// operator is the one of that level that is next, if one is.
func (r *reader) operator(level int) (operator, bool) {
	t := r.ahead(0)
	if t.Kind != api.TOp {
		return operator{}, false
	}
	return atLevel(level, t.Text)
}

// sign reads that sign, which has to be next.
func (r *reader) sign(sign string) {
	if !r.takeSign(sign) {
		r.fail(api.ErrSyntax)
	}
}

// word reads that word, which has to be next.
func (r *reader) word(word string) {
	if !r.takeWord(word) {
		r.fail(api.ErrSyntax)
	}
}

// name reads a name, which has to be next.
func (r *reader) name() string {
	if r.ahead(0).Kind != api.TName {
		r.fail(api.ErrSyntax)
	}
	return r.next().Text
}

// enter tells that with the token that is next one more thing is open, up to leave.
func (r *reader) enter() {
	r.open++
	if r.open > api.MaxDepth {
		r.fail(api.ErrDeep)
	}
}

func (r *reader) leave() {
	r.open--
}
