package lex

// Signs of a text.
const (
	quote    = '"'
	escape   = '\\'
	lineFeed = '\n'
	feedSign = 'n'
)

// imagSign stands right behind the digits of an imaginary number.
const imagSign = 'i'

func isDigit(b byte) bool {
	return '0' <= b && b <= '9'
}

// inName tells whether b may stand in a name behind its first sign.
func inName(b byte) bool {
	return 'a' <= b && b <= 'z' || 'A' <= b && b <= 'Z' || b == '_' || isDigit(b)
}

func inLine(b byte) bool {
	return b != lineFeed
}

func isWord(s string) bool {
	switch s {
	case "fn", "let", "if", "else", "while", "break", "continue", "return", "print", "nil":
		return true
	}
	return false
}

// opLength is how many signs the op at the front of s has; 0, if none stands there. The longer ones are asked first: == is not = and =.
func opLength(s string) int {
	switch s[:min(2, len(s))] {
	case "==", "!=", "<=", ">=", "&&", "||":
		return 2
	}
	switch s[:min(1, len(s))] {
	case "(", ")", "{", "}", "[", "]", ",", ";", "=", "+", "-", "*", "/", "%", "<", ">", "!":
		return 1
	}
	return 0
}
