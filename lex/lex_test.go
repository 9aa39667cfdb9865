package lex_test

import (
	"math"
	"reflect"
	"strings"
	"testing"
	"unsafe"

	"ratline/api"
	"ratline/lex"
)

func named(s string, at int) lex.Token {
	return lex.Token{Kind: api.TName, Text: s, At: at}
}

func word(s string, at int) lex.Token {
	return lex.Token{Kind: api.TWord, Text: s, At: at}
}

func whole(n int64, at int) lex.Token {
	return lex.Token{Kind: api.TInt, N: n, At: at}
}

func imag(n int64, at int) lex.Token {
	return lex.Token{Kind: api.TImag, N: n, At: at}
}

func text(s string, at int) lex.Token {
	return lex.Token{Kind: api.TText, Text: s, At: at}
}

func op(s string, at int) lex.Token {
	return lex.Token{Kind: api.TOp, Text: s, At: at}
}

func expect(t *testing.T, s string, want ...lex.Token) {
	t.Helper()
	l, at, e := lex.Tokens(s)
	if len(l) == 0 && len(want) == 0 {
		l, want = nil, nil
	}
	if !reflect.DeepEqual(l, want) || at != 0 || e != api.OK {
		t.Errorf("%.80q: %.300v, %d, %d, want %.300v", s, l, at, e, want)
	}
}

func expectError(t *testing.T, s string, place int, want api.Errno) {
	t.Helper()
	if l, at, e := lex.Tokens(s); len(l) != 0 || at != place || e != want {
		t.Errorf("%.80q: %.300v, %d, %d, want %d, %d", s, l, at, e, place, want)
	}
}

// Promise 4.1: names and words.

func words() []string {
	return []string{"fn", "let", "if", "else", "while", "break", "continue", "return", "print", "nil"}
}

func TestNames(t *testing.T) {
	for _, s := range []string{
		"a", "z", "A", "Z", "_", "__", "_1", "a1", "a_1B", "main", "Main", "x9y", "i", "i1", "n",
		"push", "len", "true", "for", "abcdefghijklmnop", "ABCDEFGHIJKLMNO_", "_123456789012345",
	} {
		expect(t, s, named(s, 0))
		expect(t, " "+s+"+"+s, named(s, 1), op("+", len(s)+1), named(s, len(s)+2))
	}
}

func TestNamesThatAreTooLong(t *testing.T) {
	most := strings.Repeat("x", 16)
	expect(t, most, named(most, 0))
	expect(t, most+" x", named(most, 0), named("x", 17))
	for _, s := range []string{most + "x", most + "1", most + "_", "_2345678901234567", strings.Repeat("a", 4000)} {
		expectError(t, s, 0, api.ErrSyntax)
	}
	expectError(t, "let "+most+"x = 1;", 4, api.ErrSyntax)
	expectError(t, most+"x $", 0, api.ErrSyntax)
}

func TestWords(t *testing.T) {
	for _, s := range words() {
		expect(t, s, word(s, 0))
		expect(t, " "+s+"("+s+")", word(s, 1), op("(", len(s)+1), word(s, len(s)+2), op(")", 2*len(s)+2))
		for _, other := range []string{s + "x", s + "1", s + "_", "_" + s, "x" + s, s + s, strings.ToUpper(s), strings.ToUpper(s[:1]) + s[1:], s[:len(s)-1]} {
			expect(t, other, named(other, 0))
		}
	}
	expect(t, "else if", word("else", 0), word("if", 5))
	expect(t, "elseif", named("elseif", 0))
}

// Promise 4.1: numbers.

func TestNumbers(t *testing.T) {
	for s, n := range map[string]int64{
		"0": 0, "1": 1, "9": 9, "10": 10, "1234567890": 1234567890, "00": 0, "007": 7, "08": 8, "010": 10,
		"9223372036854775806": math.MaxInt64 - 1, "9223372036854775807": math.MaxInt64, "000009223372036854775807": math.MaxInt64,
		strings.Repeat("0", 100): 0, strings.Repeat("0", 3998) + "7": 7, strings.Repeat("0", 3980) + "9223372036854775807": math.MaxInt64,
	} {
		expect(t, s, whole(n, 0))
		expect(t, s+"i", imag(n, 0))
	}
	expect(t, "12 3i 4", whole(12, 0), imag(3, 3), whole(4, 6))
	expect(t, "1 i", whole(1, 0), named("i", 2))
	expect(t, "1#i\ni", whole(1, 0), named("i", 4))
	expect(t, "-1", op("-", 0), whole(1, 1))
	expect(t, "-9223372036854775807i", op("-", 0), imag(math.MaxInt64, 1))
	expect(t, "1+2i*3", whole(1, 0), op("+", 1), imag(2, 2), op("*", 4), whole(3, 5))
	expect(t, `1"a"2i"b"`, whole(1, 0), text("a", 1), imag(2, 4), text("b", 6))
}

func TestNumbersThatAreTooGreat(t *testing.T) {
	for _, s := range []string{
		"9223372036854775808", "9223372036854775810", "10000000000000000000", "18446744073709551615", "18446744073709551616", "18446744073709551617",
		"99999999999999999999", "0009223372036854775808", strings.Repeat("9", 3999), strings.Repeat("0", 3900) + "9223372036854775808",
	} {
		expectError(t, s, 0, api.ErrSyntax)
		expectError(t, s+"i", 0, api.ErrSyntax)
	}
	expectError(t, "-9223372036854775808", 1, api.ErrSyntax)
	expectError(t, "x = 9223372036854775808i ;", 4, api.ErrSyntax)
}

// Each byte right behind digits, and right behind digits and an i.
func TestWhatStandsBehindNumbers(t *testing.T) {
	for b := range 256 {
		sign := string([]byte{byte(b)})
		inName := sign == "_" || sign >= "a" && sign <= "z" || sign >= "A" && sign <= "Z"
		isDigit := sign >= "0" && sign <= "9"
		if inName && sign != "i" {
			expectError(t, " 12"+sign, 1, api.ErrSyntax)
			expectError(t, " 12"+sign+" 1", 1, api.ErrSyntax)
		}
		if inName || isDigit {
			expectError(t, "+34i"+sign, 1, api.ErrSyntax)
		}
		agrees(t, "12"+sign)
		agrees(t, "34i"+sign)
	}
	for _, s := range []string{"0x1f", "1e3", "1_000", "1I", "2if", "2i_", "2ii", "1i1i", "12abc"} {
		expectError(t, s, 0, api.ErrSyntax)
	}
	expectError(t, "1.5", 1, api.ErrSyntax)
}

// Promise 4.1: texts.

func TestTexts(t *testing.T) {
	for s, told := range map[string]string{
		`""`: "", `"a"`: "a", `"a b"`: "a b", `"\""`: `"`, `"\\"`: `\`, `"\n"`: "\n", `"n"`: "n",
		`"\\n"`: `\n`, `"\\\n"`: "\\\n", `"\\\\"`: `\\`, `"\"\\\n"`: "\"\\\n", `"\n\\\""`: "\n\\\"", `"\"a\""`: `"a"`,
		`"# no remark"`: "# no remark", `"fn 1 == 2i"`: "fn 1 == 2i", "\"\t\r\x00\x7f\"": "\t\r\x00\x7f", "\"é€\xff\xc3\"": "é€\xff\xc3", `"'` + "`" + `"`: "'`",
		`"` + strings.Repeat("x", 3998) + `"`: strings.Repeat("x", 3998), `"` + strings.Repeat(`\n`, 1999) + `"`: strings.Repeat("\n", 1999),
	} {
		expect(t, s, text(told, 0))
	}
	expect(t, `a"b"c`, named("a", 0), text("b", 1), named("c", 4))
	expect(t, `"""a"`, text("", 0), text("a", 2))
	expect(t, `"\\"a`, text(`\`, 0), named("a", 4))
	expect(t, `"fn"fn`, text("fn", 0), word("fn", 4))
}

func TestWrongTexts(t *testing.T) {
	for _, s := range []string{
		`"`, `"a`, `"a b`, `"\"`, `"\\\"`, `"\`, `"a\`, `"\\`, `"\n`, "\"\n\"", "\"a\nb\"", "\"a\n", "\"\\\n\"", `"\t"`, `"\r"`, `"\0"`, `"\N"`, `"\ "`, `"\'"`, `"\x41"`,
		`"` + strings.Repeat("x", 3999), `"a\` + "\xff" + `"`, `"\x`, `"# no remark`,
	} {
		expectError(t, s, 0, api.ErrSyntax)
		if len(s) < 4000 {
			expectError(t, " "+s, 1, api.ErrSyntax)
		}
	}
	expectError(t, `a = "b`, 4, api.ErrSyntax)
	expectError(t, `"a" "b`, 4, api.ErrSyntax)
	expectError(t, `"a""`, 3, api.ErrSyntax)
	expectError(t, `"a\t" $`, 0, api.ErrSyntax)
}

// Each byte within a text, as itself and behind a backslash.
func TestBytesOfTexts(t *testing.T) {
	behind := map[string]string{`"`: `"`, `\`: `\`, "n": "\n"}
	for b := range 256 {
		sign := string([]byte{byte(b)})
		if sign != `"` && sign != `\` && sign != "\n" {
			expect(t, ` "a`+sign+`b"`, text("a"+sign+"b", 1))
		}
		if told, ok := behind[sign]; ok {
			expect(t, ` "a\`+sign+`b"`, text("a"+told+"b", 1))
		} else {
			expectError(t, ` "a\`+sign+`b"`, 1, api.ErrSyntax)
		}
	}
}

// Promise 4.1: ops.

func shortOps() []string {
	return strings.Split("( ) { } [ ] , ; = + - * / % < > !", " ")
}

func longOps() []string {
	return strings.Split("== != <= >= && ||", " ")
}

func TestOps(t *testing.T) {
	for _, s := range append(shortOps(), longOps()...) {
		expect(t, s, op(s, 0))
		expect(t, s+" "+s, op(s, 0), op(s, len(s)+1))
		expect(t, "a"+s+"1", named("a", 0), op(s, 1), whole(1, 1+len(s)))
	}
}

func TestLongerOpsFirst(t *testing.T) {
	expect(t, "===", op("==", 0), op("=", 2))
	expect(t, "====", op("==", 0), op("==", 2))
	expect(t, "= =", op("=", 0), op("=", 2))
	expect(t, "=#\n=", op("=", 0), op("=", 3))
	expect(t, "=!=", op("=", 0), op("!=", 1))
	expect(t, "!==", op("!=", 0), op("=", 2))
	expect(t, "!!=", op("!", 0), op("!=", 1))
	expect(t, "<==", op("<=", 0), op("=", 2))
	expect(t, "=<=>", op("=", 0), op("<=", 1), op(">", 3))
	expect(t, "<>=", op("<", 0), op(">=", 1))
	expect(t, "<<", op("<", 0), op("<", 1))
	expect(t, "&&&&", op("&&", 0), op("&&", 2))
	expect(t, "||||", op("||", 0), op("||", 2))
	expectError(t, "&&&", 2, api.ErrSyntax)
	expectError(t, "|||", 2, api.ErrSyntax)
	expectError(t, "& &", 0, api.ErrSyntax)
	expectError(t, "a | b", 2, api.ErrSyntax)
	expectError(t, "a &| b", 2, api.ErrSyntax)
}

// Each two ops of one sign that stand together are one op, if there is such a one, else two.
func TestPairsOfOps(t *testing.T) {
	for _, a := range shortOps() {
		for _, b := range shortOps() {
			if strings.Contains(" == != <= >= ", " "+a+b+" ") {
				expect(t, a+b, op(a+b, 0))
			} else {
				expect(t, a+b, op(a, 0), op(b, 1))
			}
		}
	}
}

// Promise 4.1: what parts tokens.

func TestWhatParts(t *testing.T) {
	for _, s := range []string{"", " ", "\t", "\n", "\r", "\r\n", " \t\n\r \n", "#", "#\n", "# a \"b $ é\xff\x00", "##", "#\n#", "# a\r# b", strings.Repeat(" ", 4000), "#" + strings.Repeat("$", 3999)} {
		expect(t, s)
	}
	for _, s := range []string{" ", "\t", "\n", "\r", "  ", "\r\n", "#\n", "# x = \"\n", "#\n#\n", " # \r # \n\t"} {
		expect(t, "a"+s+"b", named("a", 0), named("b", 1+len(s)))
		expect(t, s+"1"+s, whole(1, len(s)))
		expect(t, "="+s+"=", op("=", 0), op("=", 1+len(s)))
		expect(t, "2"+s+"i", whole(2, 0), named("i", 1+len(s)))
	}
	expect(t, "a#b", named("a", 0))
	expect(t, "a#b\rc", named("a", 0))
	expect(t, "a#b\nc#d\ne", named("a", 0), named("c", 4), named("e", 8))
	expect(t, "a#\"\nb\"#\"", named("a", 0), named("b", 4), text("#", 5))
	expectError(t, "# $\n $", 5, api.ErrSyntax)
}

// Each byte alone.
func TestBytesAlone(t *testing.T) {
	for b := range 256 {
		s := string([]byte{byte(b)})
		switch {
		case strings.Contains(" \t\n\r#", s):
			expect(t, s)
		case s >= "0" && s <= "9":
			expect(t, s, whole(int64(b-'0'), 0))
		case s == "_" || s >= "a" && s <= "z" || s >= "A" && s <= "Z":
			expect(t, s, named(s, 0))
		case strings.Contains(strings.Join(shortOps(), ""), s):
			expect(t, s, op(s, 0))
		default:
			expectError(t, s, 0, api.ErrSyntax)
			expectError(t, "a "+s+" b", 2, api.ErrSyntax)
		}
	}
}

// Promise 4.1: lengths and places.

func TestLength(t *testing.T) {
	expect(t, strings.Repeat(" ", 3999)+"a", named("a", 3999))
	expect(t, strings.Repeat("#", 4000))
	if l, at, e := lex.Tokens(strings.Repeat("(", 4000)); len(l) != 4000 || at != 0 || e != api.OK || l[3999] != op("(", 3999) {
		t.Error(len(l), at, e)
	}
	for _, s := range []string{"a", " ", "(", "$", "#", "\"", "0", "\xff", "é"} {
		expectError(t, strings.Repeat(s, 4001), 0, api.ErrLong)
		expectError(t, strings.Repeat(s, 1<<20), 0, api.ErrLong)
	}
	// 2,000 letters of two bytes are within the bound, and wrong.
	expectError(t, strings.Repeat("é", 2000), 0, api.ErrSyntax)
	expectError(t, strings.Repeat(" ", 3999)+"$", 3999, api.ErrSyntax)
	expectError(t, strings.Repeat(" ", 4000)+"$", 0, api.ErrLong)
}

func TestTheFirstFaultIsTold(t *testing.T) {
	for s, at := range map[string]int{
		"$": 0, "a$": 1, "a $ 1x": 2, "1x $": 0, "a 1x $": 2, "abcdefghijklmnopq 1x": 0, "a\n\tb #$\n$ \"": 8, "\"ab\"\"": 4, "a.b": 1, "é": 0, "aé": 1, "a\x00": 1,
		"fn main ( ) { print 1 & 2 ; }": 22, "\xa0": 0, "\v": 0, "\f": 0, "\u2028": 0, "a\u00a0b": 1, "ª": 0, "٣": 0, "x٣": 1, "１": 0, "\\n": 0, "a ? b : c": 2, "~": 0, "^": 0, "@": 0, "'a'": 0, "`": 0,
	} {
		expectError(t, s, at, api.ErrSyntax)
	}
}

func TestProgram(t *testing.T) {
	expect(t, "x==2i", named("x", 0), op("==", 1), imag(2, 3))
	expect(t, "fn main(){let l=[1,2i];# all\nprint l[0]!=nil||!f(\"a\\n\");}",
		word("fn", 0), named("main", 3), op("(", 7), op(")", 8), op("{", 9),
		word("let", 10), named("l", 14), op("=", 15), op("[", 16), whole(1, 17), op(",", 18), imag(2, 19), op("]", 21), op(";", 22),
		word("print", 29), named("l", 35), op("[", 36), whole(0, 37), op("]", 38), op("!=", 39), word("nil", 41), op("||", 44), op("!", 46),
		named("f", 47), op("(", 48), text("a\n", 49), op(")", 54), op(";", 55), op("}", 56))
}

// Promise 4.1: Name.

func TestName(t *testing.T) {
	for _, s := range []string{"a", "Z", "_", "_1", "a_b", "Main", "fnx", "Fn", "FN", "nil_", "iff", "abcdefghijklmnop", "_234567890123456"} {
		if !lex.Name(s) {
			t.Errorf("%q is a name", s)
		}
	}
	wrong := append(words(), append(shortOps(), longOps()...)...)
	wrong = append(wrong, "", " ", "1", "1a", "12", "2i", "a b", " a", "a ", "\ta", "a\n", "a\r", "a#", "#", "#a", "a+b", "a(", "a,b", "-a", "\"a\"", "\"a", "a\"", "a.b", "a\x00", "\x00", "é", "aé", "\xff", "$",
		"abcdefghijklmnopq", "abcdefghijklmnop ", strings.Repeat("a", 4000), strings.Repeat("a", 4001), strings.Repeat("a", 1<<20))
	for _, s := range wrong {
		if lex.Name(s) {
			t.Errorf("%.40q is no name", s)
		}
	}
	for b := range 256 {
		for _, s := range []string{string([]byte{byte(b)}), string([]byte{'a', byte(b)}), string([]byte{byte(b), 'a'})} {
			nameAgrees(t, s)
		}
	}
}

// Rule 3: what is answered is new memory.

func TestTextsAreNewMemory(t *testing.T) {
	s := strings.Clone("fn name(\"a long text \\n and more of it\"==12) && ||!=")
	l, _, e := lex.Tokens(s)
	if e != api.OK {
		t.Fatal(e)
	}
	first := uintptr(unsafe.Pointer(unsafe.StringData(s)))
	for _, x := range l {
		if at := uintptr(unsafe.Pointer(unsafe.StringData(x.Text))); x.Text != "" && at >= first && at < first+uintptr(len(s)) {
			t.Errorf("%q is a piece of what was handed in", x.Text)
		}
	}
}

func TestListsAreNewMemory(t *testing.T) {
	s := "let a = [ 1 , 2i , \"b\" ] ;"
	want, _, _ := lex.Tokens(s)
	l, _, _ := lex.Tokens(s)
	l = l[:cap(l)]
	for i := range l {
		l[i] = lex.Token{Kind: 77}
	}
	expect(t, s, want...)
}
