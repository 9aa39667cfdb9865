package lex

import (
	"strconv"

	"ratline/api"
)

// number reads digits, perhaps with an i behind them.
func number(s string, at int) (Token, int, bool) {
	end := past(s, at, isDigit)
	n, err := strconv.ParseInt(s[at:end], 10, 64)
	if err != nil { // they are above the greatest int
		return none()
	}
	t := Token{Kind: api.TInt, N: n, At: at}
	if end < len(s) && s[end] == imagSign {
		t.Kind = api.TImag
		end++
	}
	if end < len(s) && inName(s[end]) {
		return none()
	}
	return t, end, true
}

// text reads from a quote to the next one that no backslash stands ahead of.
func text(s string, at int) (Token, int, bool) {
	var told []byte
	i := at + 1
next:
	if i == len(s) || s[i] == lineFeed {
		return none()
	}
	if s[i] == quote {
		return Token{Kind: api.TText, Text: string(told), At: at}, i + 1, true
	}
	b, n := sign(s[i:])
	if n == 0 {
		return none()
	}
	told = append(told, b)
	i += n
	goto next
}

// sign is the byte of a text that the front of s tells, and how many bytes tell it; 0, if a backslash stands there and nothing that it may stand ahead of.
func sign(s string) (byte, int) {
	if s[0] != escape {
		return s[0], 1
	}
	if len(s) == 1 {
		return 0, 0
	}
	switch s[1] {
	case quote, escape:
		return s[1], 2
	case feedSign:
		return lineFeed, 2
	}
	return 0, 0
}
