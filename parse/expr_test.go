package parse_test

import (
	"math"
	"math/rand"
	"strings"
	"testing"

	"ratline/api"
)

// Promise 5.2: each kind of expression.

func TestSingles(t *testing.T) {
	for s, n := range map[string]api.Node{
		"0": whole(0), "12": whole(12), "007": whole(7), "9223372036854775807": whole(math.MaxInt64),
		"0i": imag(0), "2i": imag(2), "9223372036854775807i": imag(math.MaxInt64),
		`""`: text(""), `"a b"`: text("a b"), `"\"\\\n"`: text("\"\\\n"), "\"\xff\x00é\"": text("\xff\x00é"), `"fn"`: text("fn"), `"("`: text("("), `"nil"`: text("nil"), `"="`: text("="),
		"nil": none(), "a": variable("a"), "_1": variable("_1"), "abcdefghijklmnop": variable("abcdefghijklmnop"), "Nil": variable("Nil"), "i": variable("i"), "len": variable("len"),
		"f()": call("f"), "f ( )": call("f"), "f(a)": call("f", variable("a")), "f(1,2i,nil)": call("f", whole(1), imag(2), none()), "f(g(),f(f()))": call("f", call("g"), call("f", call("f"))),
		"f(a||b,c)": call("f", or(variable("a"), variable("b")), variable("c")), "f((a))": call("f", variable("a")), "f([])": call("f", list()),
		"[]": list(), "[ ]": list(), "[a]": list(variable("a")), "[1,\"x\",[]]": list(whole(1), text("x"), list()), "[[[]]]": list(list(list())), "[a||b,-c]": list(or(variable("a"), variable("b")), neg(variable("c"))),
		"(a)": variable("a"), "((1))": whole(1), "(nil)": none(), "([])": list(), "(f())": call("f"),
		"\n\t#a\na#b": variable("a"), "\ta\r\n": variable("a"),
	} {
		expectExpr(t, s, n)
	}
	expectExpr(t, "f("+strings.Repeat("1,", 99)+"1)", call("f", many(100)...))
	expectExpr(t, "["+strings.Repeat("1,", 99)+"1]", list(many(100)...))
}

func many(n int) (l []api.Node) {
	for range n {
		l = append(l, whole(1))
	}
	return l
}

func TestOperators(t *testing.T) {
	a, b := variable("a"), variable("b")
	for s, n := range map[string]api.Node{
		"a||b": or(a, b), "a&&b": and(a, b), "a==b": bin(api.OEq, a, b), "a!=b": bin(api.ONe, a, b), "a<b": bin(api.OLt, a, b), "a<=b": bin(api.OLe, a, b), "a>b": bin(api.OGt, a, b), "a>=b": bin(api.OGe, a, b),
		"a+b": bin(api.OAdd, a, b), "a-b": bin(api.OSub, a, b), "a*b": bin(api.OMul, a, b), "a/b": bin(api.ODiv, a, b), "a%b": bin(api.OMod, a, b), "-a": neg(a), "!a": not(a), "a[b]": get(a, b),
		"- -a": neg(neg(a)), "--a": neg(neg(a)), "!!a": not(not(a)), "-!a": neg(not(a)), "!-a": not(neg(a)), "a--b": bin(api.OSub, a, neg(b)), "a- -b": bin(api.OSub, a, neg(b)), "a!=!b": bin(api.ONe, a, not(b)),
		"-1": neg(whole(1)), "-2i": neg(imag(2)), "(-a)": neg(a), "-(a)": neg(a), "-9223372036854775807": neg(whole(math.MaxInt64)),
		"-a[b]": neg(get(a, b)), "(-a)[b]": get(neg(a), b), "!a[b][a]": not(get(get(a, b), a)), "a[b][a]": get(get(a, b), a), "a[b[a]]": get(a, get(b, a)), "a[b||a]": get(a, or(b, a)), "a[-b]": get(a, neg(b)),
		"f()[a]": get(call("f"), a), "[a][b]": get(list(a), b), "[][b]": get(list(), b), "nil[a]": get(none(), a), "1[a]": get(whole(1), a), "2i[a]": get(imag(2), a), `"x"[a]`: get(text("x"), a), "(a+b)[a]": get(bin(api.OAdd, a, b), a),
		"-f(a)": neg(call("f", a)), "-[a]": neg(list(a)), "-\"a\"": neg(text("a")), "-nil": neg(none()), "-(a+b)": neg(bin(api.OAdd, a, b)),
		"a+b*2<3":    bin(api.OLt, bin(api.OAdd, a, bin(api.OMul, b, whole(2))), whole(3)),
		"a[1] + -2i": bin(api.OAdd, get(a, whole(1)), neg(imag(2))),
		"(a==b)==a":  bin(api.OEq, bin(api.OEq, a, b), a), "a==(b==a)": bin(api.OEq, a, bin(api.OEq, b, a)),
		"a==b&&b==a": and(bin(api.OEq, a, b), bin(api.OEq, b, a)), "a<b||a>b": or(bin(api.OLt, a, b), bin(api.OGt, a, b)), "[a<b,a<b]": list(bin(api.OLt, a, b), bin(api.OLt, a, b)), "a[a<b]<b": bin(api.OLt, get(a, bin(api.OLt, a, b)), b),
	} {
		expectExpr(t, s, n)
	}
}

// sign is an op of two places as the chapter tells it: how strong it is, and what it makes.
type sign struct {
	s         string
	strong    int
	kind, num int
}

func signs() []sign {
	return []sign{
		{"||", 1, api.EOr, 0}, {"&&", 2, api.EAnd, 0},
		{"==", 3, api.EBin, api.OEq}, {"!=", 3, api.EBin, api.ONe}, {"<", 3, api.EBin, api.OLt}, {"<=", 3, api.EBin, api.OLe}, {">", 3, api.EBin, api.OGt}, {">=", 3, api.EBin, api.OGe},
		{"+", 4, api.EBin, api.OAdd}, {"-", 4, api.EBin, api.OSub},
		{"*", 5, api.EBin, api.OMul}, {"/", 5, api.EBin, api.ODiv}, {"%", 5, api.EBin, api.OMod},
	}
}

// parted is the tree of operands with ops between them: it is parted at the last of the weakest.
func parted(l []api.Node, ops []sign) api.Node {
	if len(ops) == 0 {
		return l[0]
	}
	at := 0
	for i, o := range ops {
		if o.strong <= ops[at].strong {
			at = i
		}
	}
	return api.Node{Kind: ops[at].kind, Op: ops[at].num, L: []api.Node{parted(l[:at+1], ops[:at]), parted(l[at+1:], ops[at+1:])}}
}

// twice is the first op that compares what is compared already; -1, if there is none.
func twice(ops []sign) int {
	compared := false
	for i, o := range ops {
		if o.strong == 3 && compared {
			return i
		}
		compared = o.strong == 3 || compared && o.strong > 3
	}
	return -1
}

func expectChain(t *testing.T, l []api.Node, words []string, ops []sign) {
	t.Helper()
	s, places := words[0], []int{}
	for i, o := range ops {
		places = append(places, len(s)+1)
		s += " " + o.s + " " + words[i+1]
	}
	if i := twice(ops); i >= 0 {
		expectExprError(t, s, places[i], api.ErrSyntax)
	} else {
		expectExpr(t, s, parted(l, ops))
	}
}

// Each level against each other, and ops of one level from left to right.
func TestTwoOps(t *testing.T) {
	a, b, c := variable("a"), variable("b"), variable("c")
	for _, x := range signs() {
		for _, y := range signs() {
			expectChain(t, []api.Node{a, b, c}, []string{"a", "b", "c"}, []sign{x, y})
			for _, z := range signs() {
				expectChain(t, []api.Node{a, b, c, a}, []string{"a", "b", "c", "a"}, []sign{x, y, z})
			}
		}
	}
}

// An op ahead and an index are stronger than all of two places.
func TestStrongOps(t *testing.T) {
	a, b, c := variable("a"), variable("b"), variable("c")
	for _, x := range signs() {
		made := func(a, b api.Node) api.Node { return api.Node{Kind: x.kind, Op: x.num, L: []api.Node{a, b}} }
		for s, n := range map[string]api.Node{
			"-a O b": made(neg(a), b), "!a O b": made(not(a), b), "a O -b": made(a, neg(b)), "a O !b": made(a, not(b)), "-a O -b": made(neg(a), neg(b)), "- -a O b": made(neg(neg(a)), b), "-(a O b)": neg(made(a, b)), "!(a O b)": not(made(a, b)),
			"a O b[c]": made(a, get(b, c)), "a[c] O b": made(get(a, c), b), "(a O b)[c]": get(made(a, b), c), "a[b O c]": get(a, made(b, c)), "a O -b[c]": made(a, neg(get(b, c))), "-a[b] O c": made(neg(get(a, b)), c),
			"f(a O b, c)": call("f", made(a, b), c), "[a O b]": list(made(a, b)), "a O f(b)": made(a, call("f", b)), "a O (b)": made(a, b), "((a) O (b))": made(a, b),
		} {
			expectExpr(t, strings.ReplaceAll(s, "O", x.s), n)
		}
	}
}

// Longer chains, their operands of all kinds.
func TestChains(t *testing.T) {
	words := []string{"a", "1", "2i", `"x"`, "nil", "- a", "! - b", "a [ 0 ]", "- a [ 0 ]", "f ( a , b )", "[ a ]", "( a || b )", "( a == b )", "( - a )"}
	trees := []api.Node{variable("a"), whole(1), imag(2), text("x"), none(), neg(variable("a")), not(neg(variable("b"))), get(variable("a"), whole(0)), neg(get(variable("a"), whole(0))),
		call("f", variable("a"), variable("b")), list(variable("a")), or(variable("a"), variable("b")), bin(api.OEq, variable("a"), variable("b")), neg(variable("a"))}
	r := rand.New(rand.NewSource(5))
	all := signs()
	for range 20000 {
		var l []api.Node
		var w []string
		var ops []sign
		for i := range 1 + r.Intn(9) {
			if i > 0 {
				ops = append(ops, all[r.Intn(len(all))])
			}
			k := r.Intn(len(words))
			l, w = append(l, trees[k]), append(w, words[k])
		}
		expectChain(t, l, w, ops)
	}
}

// A long chain stands in no brackets: it is as deep as it likes.
func TestLongChains(t *testing.T) {
	for _, o := range signs() {
		if o.strong == 3 {
			expectExprError(t, "a"+strings.Repeat(o.s+"a", 900), 2+len(o.s), api.ErrSyntax)
			continue
		}
		n := variable("a")
		for range 900 {
			n = api.Node{Kind: o.kind, Op: o.num, L: []api.Node{n, variable("a")}}
		}
		expectExpr(t, "a"+strings.Repeat(o.s+"a", 900), n)
	}
	n := variable("a")
	for range 1333 {
		n = get(n, whole(0))
	}
	expectExpr(t, "a"+strings.Repeat("[0]", 1333), n)
}

// Promise 5.2, wrong inputs: the first token that does not go on.

func TestWrongExprs(t *testing.T) {
	for s, at := range map[string]int{
		"": 0, " ": 1, "# a": 3, "a +": 3, "a + ": 4, "a b": 2, "a 1": 2, "1 a": 2, "a == b == c": 7, "a<b<=c": 3, "a==b!=c": 4, "a<b+c>d": 5, "a == b && c != d < e": 17,
		"f(": 2, "f(a": 3, "f(a,": 4, "f(a,)": 4, "f(,)": 2, "f(,a)": 2, "f(a b)": 4, "f(a;b)": 3, "f(a]": 3, "f)": 1, "f()(": 3, "f(a)(b)": 4, "(f)(a)": 3, "1(": 1, "nil(": 3, "\"a\"(": 3, "a[0](": 4, "[](": 2, "2i(": 2,
		"[": 1, "[1": 2, "[1,": 3, "[1,]": 3, "[,]": 1, "[,1]": 1, "[1 2]": 3, "[1)": 2, "]": 0, "[]]": 2, "[1;]": 2,
		"(": 1, "(a": 2, "()": 1, ")": 0, "(a]": 2, "(a,b)": 2, "(a))": 3, "a)": 1, "(a;)": 2, "(a b": 3,
		"a[": 2, "a[]": 2, "a[1": 3, "a[1,2]": 3, "a[1)": 3, "a]": 1, "a[1]]": 4, "a[1]b": 4,
		"-": 1, "!": 1, "! ": 2, "- -": 3, "-)": 1, "a - ": 4, "a -": 3, "-*a": 1, "!&&": 1, "- + a": 2, "+a": 0, "*a": 0, "a**b": 2, "a!b": 1, "a!!b": 1, "a ! = b": 2, "a = b": 2, "a = = b": 2, "a===b": 3, "a====b": 3, "a<=": 3, "a =< b": 2, "a&&": 3, "a&& &&b": 4, "a|| ||b": 4, "a||": 3, "&&": 0, "||a": 0, "==a": 0, "a&&&&b": 3,
		"if": 0, "fn": 0, "let": 0, "else": 0, "while": 0, "break": 0, "continue": 0, "return": 0, "print": 0, "a fn": 2, "a + if": 4, "nil nil": 4, "f(if)": 2, "[let]": 1, "(print a)": 1, "print(a)": 0, "-return": 1, "a[else]": 2, "fn(a)": 0,
		";": 0, "a;": 1, "{": 0, "}": 0, "a {": 2, "{a}": 0, ",": 0, "a,b": 1, "a, b": 1, "=": 0,
	} {
		expectExprError(t, s, at, api.ErrSyntax)
	}
}

func TestErrorsOfWords(t *testing.T) {
	for s, at := range map[string]int{"$": 0, "a $": 2, ") $": 2, "a b $": 4, "((1x": 2, "\"a": 0, "a b \"": 4, "abcdefghijklmnopq": 0, "9223372036854775808": 0, "-9223372036854775808": 1, "a & b": 2, "\xff": 0, "if \xff": 3} {
		expectExprError(t, s, at, api.ErrSyntax)
		expectProgramError(t, s, at, api.ErrSyntax)
	}
	deep := strings.Repeat("(", 25)
	expectExprError(t, deep+"$", 25, api.ErrSyntax)
	expectProgramError(t, "fn f(){"+deep+"$", 32, api.ErrSyntax)
	expectProgramError(t, strings.Repeat("fn f(){}", 17)+"$", 136, api.ErrSyntax)
}

// 4,000 bytes, and one more.
func TestLengths(t *testing.T) {
	blanks := strings.Repeat(" ", 3999)
	expectExpr(t, blanks+"a", variable("a"))
	expectExprError(t, blanks+"a ", 0, api.ErrLong)
	expectExprError(t, blanks+"+", 3999, api.ErrSyntax)
	expectExprError(t, blanks+" ", 4000, api.ErrSyntax)
	expectExpr(t, `"`+strings.Repeat("x", 3998)+`"`, text(strings.Repeat("x", 3998)))
	expectExprError(t, `"`+strings.Repeat("x", 3999)+`"`, 0, api.ErrLong)
	expectProgram(t, strings.Repeat(" ", 3990)+"fn f() { }", fun("f", nil))
	expectProgramError(t, strings.Repeat(" ", 3991)+"fn f() { }", 0, api.ErrLong)
	expectProgram(t, strings.Repeat("#", 4000))
	expectProgramError(t, strings.Repeat("#", 4001), 0, api.ErrLong)
	for _, s := range []string{"(", "[", "-", "f(", "a[", "a+", "{", "fn f(){", "\"", "$", "\xff"} {
		expectExprError(t, strings.Repeat(s, 4001), 0, api.ErrLong)
		expectProgramError(t, strings.Repeat(s, 4001), 0, api.ErrLong)
	}
}
