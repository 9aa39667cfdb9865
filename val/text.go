package val

import (
	"strconv"
	"strings"

	"ratline/api"
	"ratline/cplx"
)

// Words and marks of a value's text.
const (
	nilWord   = "nil"
	quote     = '"'
	escape    = '\\'
	lineFeed  = '\n'
	feedWord  = 'n'
	listOpen  = "["
	listClose = "]"
	listNext  = ", "
)

// longestInt bounds what is looked at as one number, however many digits stand there.
const longestInt = len("-9223372036854775808")

// Show tells v as a text.
func Show(v api.Value) string {
	return string(appendValue(nil, taken(v)))
}

// Read is the value that is Ok and whose Show s is; false, if there is none.
func Read(s string) (api.Value, bool) {
	r := reader{rest: s, room: api.MaxSize}
	v, ok := r.value()
	// The reader takes more than it should: 05 for 5, what is too deep, what stands behind a value. Only the text that Show tells is a value's own.
	if !ok || Show(v) != s {
		return Nil(), false
	}
	return v, true
}

func appendValue(t []byte, v api.Value) []byte {
	switch v.Kind {
	case api.VInt:
		return strconv.AppendInt(t, v.N, 10)
	case api.VCx:
		return append(t, cplx.Text(v.Z)...)
	case api.VText:
		return appendQuoted(t, v.S)
	case api.VList:
		t = append(t, listOpen...)
		for i, x := range v.L {
			if i > 0 {
				t = append(t, listNext...)
			}
			t = appendValue(t, x)
		}
		return append(t, listClose...)
	}
	return append(t, nilWord...)
}

func appendQuoted(t []byte, s string) []byte {
	t = append(t, quote)
	for i := range len(s) { // by bytes: what is no letter is told as it is
		switch s[i] {
		case quote, escape:
			t = append(t, escape, s[i])
		case lineFeed:
			t = append(t, escape, feedWord)
		default:
			t = append(t, s[i])
		}
	}
	return append(t, quote)
}

// reader reads values from the front of rest. Room is the Size that is still to be had: so it stops early, however long or deep the text is.
type reader struct {
	rest string
	room int
}

func (r *reader) value() (api.Value, bool) {
	if !r.spend() {
		return Nil(), false
	}
	switch {
	case r.skip(nilWord):
		return Nil(), true
	case r.skip(string(quote)):
		return r.text()
	case r.skip(listOpen):
		return r.list()
	case strings.HasPrefix(r.rest, "<"):
		return r.cx()
	}
	return r.number()
}

// list reads what stands behind a list's first mark.
func (r *reader) list() (api.Value, bool) {
	v := api.Value{Kind: api.VList}
	if r.skip(listClose) {
		return v, true
	}
	for {
		x, ok := r.value()
		if !ok {
			return Nil(), false
		}
		v.L = append(v.L, x)
		if r.skip(listClose) {
			return v, true
		}
		if !r.skip(listNext) {
			return Nil(), false
		}
	}
}

// text reads what stands behind a text's first mark.
func (r *reader) text() (api.Value, bool) {
	var t []byte
	for {
		if r.skip(string(quote)) {
			return api.Value{Kind: api.VText, S: string(t)}, true
		}
		b, ok := r.letter()
		if !ok || !r.spend() {
			return Nil(), false
		}
		t = append(t, b)
	}
}

// letter reads a text's byte, as itself or behind a backslash.
func (r *reader) letter() (byte, bool) {
	escaped := r.skip(string(escape))
	if r.rest == "" {
		return 0, false
	}
	b := r.rest[0]
	r.rest = r.rest[1:]
	if escaped && b == feedWord {
		return lineFeed, true
	}
	return b, true
}

func (r *reader) cx() (api.Value, bool) {
	z, ok := cplx.Parse(r.cut(strings.IndexByte(r.rest, '>') + 1))
	if !ok {
		return Nil(), false
	}
	return Cx(z), true
}

func (r *reader) number() (api.Value, bool) {
	n, err := strconv.ParseInt(r.cut(numberEnd(r.rest)), 10, 64)
	if err != nil {
		return Nil(), false
	}
	return Int(n), true
}

// numberEnd is where the sign and the digits at the front of s end.
func numberEnd(s string) int {
	i := 0
	for i < min(len(s), longestInt) && (s[i] == '-' || '0' <= s[i] && s[i] <= '9') {
		i++
	}
	return i
}

// spend takes 1 of the room; false, if none is left.
func (r *reader) spend() bool {
	r.room--
	return r.room >= 0
}

// skip goes over word, if the rest begins with it.
func (r *reader) skip(word string) bool {
	rest, ok := strings.CutPrefix(r.rest, word)
	r.rest = rest
	return ok
}

// cut takes n bytes off the rest.
func (r *reader) cut(n int) string {
	s := r.rest[:n]
	r.rest = r.rest[n:]
	return s
}
