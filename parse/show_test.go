package parse_test

import (
	"math"
	"math/rand"
	"slices"
	"strconv"
	"strings"
	"testing"
	"unsafe"

	"ratline/api"
	"ratline/lex"
	"ratline/parse"
)

// Promise 5.3: the text of each kind, and of each statement.

func TestShow(t *testing.T) {
	a, b, c := variable("a"), variable("b"), variable("c")
	for s, n := range map[string]api.Node{
		"a": a, "_": variable("_"), "abcdefghijklmnop": variable("abcdefghijklmnop"), "0": whole(0), "9223372036854775807": whole(math.MaxInt64), "0i": imag(0), "12i": imag(12), "nil": none(),
		`""`: text(""), `"a b"`: text("a b"), `"\"\\\n\\n"`: text("\"\\\n\\n"), "\"\t\r\x00\xff#é\"": text("\t\r\x00\xff#é"),
		"f ( )": call("f"), "f ( a )": call("f", a), "f ( a , - b , c || a )": call("f", a, neg(b), or(c, a)), "[ ]": list(), "[ a ]": list(a), "[ [ ] , a || b ]": list(list(), or(a, b)),
		"a || b": or(a, b), "a && b": and(a, b), "a == b": bin(api.OEq, a, b), "a != b": bin(api.ONe, a, b), "a < b": bin(api.OLt, a, b), "a <= b": bin(api.OLe, a, b), "a > b": bin(api.OGt, a, b), "a >= b": bin(api.OGe, a, b),
		"a + b": bin(api.OAdd, a, b), "a - b": bin(api.OSub, a, b), "a * b": bin(api.OMul, a, b), "a / b": bin(api.ODiv, a, b), "a % b": bin(api.OMod, a, b), "- a": neg(a), "! a": not(a), "a [ b ]": get(a, b),
		"- - a": neg(neg(a)), "! - a": not(neg(a)), "- 1": neg(whole(1)), "- a [ b ]": neg(get(a, b)), "( - a ) [ b ]": get(neg(a), b), "a [ b ] [ c ]": get(get(a, b), c), "a [ b [ c ] ]": get(a, get(b, c)), "a [ - b ]": get(a, neg(b)), "a [ b || c ]": get(a, or(b, c)), "( a || b ) [ c ]": get(or(a, b), c), "f ( a ) [ b ]": get(call("f", a), b), "[ a ] [ b ]": get(list(a), b), "nil [ 1 ]": get(none(), whole(1)),
		"- ( a * b )": neg(bin(api.OMul, a, b)), "- a * b": bin(api.OMul, neg(a), b), "a * - b": bin(api.OMul, a, neg(b)), "a - - b": bin(api.OSub, a, neg(b)), "! ( a == b )": not(bin(api.OEq, a, b)),
		"( a == b ) == c": bin(api.OEq, bin(api.OEq, a, b), c), "a == ( b == c )": bin(api.OEq, a, bin(api.OEq, b, c)), "( a < b ) != ( b < c )": bin(api.ONe, bin(api.OLt, a, b), bin(api.OLt, b, c)),
		"a + b * 2 < 3": bin(api.OLt, bin(api.OAdd, a, bin(api.OMul, b, whole(2))), whole(3)),
	} {
		expectShow(t, n, s)
	}
}

// Each op of two places as each operand of each other: parentheses just where they are needed.
func TestShowOfTwoOps(t *testing.T) {
	a, b, c := variable("a"), variable("b"), variable("c")
	for _, x := range signs() {
		for _, y := range signs() {
			inner := api.Node{Kind: y.kind, Op: y.num, L: []api.Node{a, b}}
			left, right := "a "+y.s+" b "+x.s+" c", "c "+x.s+" a "+y.s+" b"
			if y.strong < x.strong || y.strong == x.strong && x.strong == 3 {
				left = "( a " + y.s + " b ) " + x.s + " c"
			}
			if y.strong <= x.strong {
				right = "c " + x.s + " ( a " + y.s + " b )"
			}
			expectShow(t, api.Node{Kind: x.kind, Op: x.num, L: []api.Node{inner, c}}, left)
			expectShow(t, api.Node{Kind: x.kind, Op: x.num, L: []api.Node{c, inner}}, right)
		}
		n := api.Node{Kind: x.kind, Op: x.num, L: []api.Node{a, b}}
		for s, n := range map[string]api.Node{"- ( a O b )": neg(n), "! ( a O b )": not(n), "( a O b ) [ c ]": get(n, c), "c [ a O b ]": get(c, n), "[ a O b , c ]": list(n, c), "f ( a O b )": call("f", n)} {
			expectShow(t, n, strings.ReplaceAll(s, "O", x.s))
		}
		for s, n := range map[string]api.Node{"- a O b": {L: []api.Node{neg(a), b}}, "a O ! b": {L: []api.Node{a, not(b)}}, "a [ b ] O c": {L: []api.Node{get(a, b), c}}, "a O b [ c ]": {L: []api.Node{a, get(b, c)}}} {
			n.Kind, n.Op = x.kind, x.num
			expectShow(t, n, strings.ReplaceAll(s, "O", x.s))
		}
	}
}

func TestPrint(t *testing.T) {
	a, b, x := variable("a"), variable("b"), variable("x")
	expectPrint(t, "")
	expectPrint(t, "fn f ( ) { }", fun("f", nil))
	expectPrint(t, "fn f ( a , b ) { } fn main ( ) { }", fun("f", []string{"a", "b"}), fun("main", nil))
	for s, l := range map[string][]api.Node{
		"let a = 1 ;": {let("a", whole(1))}, "a = a == b ;": {set("a", bin(api.OEq, a, b))}, "a == b ;": {do(bin(api.OEq, a, b))}, "break ;": {stop()}, "continue ;": {again()}, "return ;": {back()}, "return a || b ;": {back(or(a, b))}, "print \"a b\" ;": {out(text("a b"))}, "f ( a ) ;": {do(call("f", a))}, "nil ;": {do(none())}, "- a ;": {do(neg(a))},
		"if a { }": {choice(a, block())}, "if a { } else { }": {choice(a, block(), block())}, "if a { x ; } else { x ; }": {choice(a, block(do(x)), block(do(x)))}, "while a { x ; break ; }": {while(a, block(do(x), stop()))},
		"if a { } else if b { }":                       {choice(a, block(), block(choice(b, block())))},
		"if a { } else if b { } else { x ; }":          {choice(a, block(), block(choice(b, block(), block(do(x)))))},
		"if a { } else if b { } else if x { }":         {choice(a, block(), block(choice(b, block(), block(choice(x, block())))))},
		"if a { } else { if b { } x ; }":               {choice(a, block(), block(choice(b, block()), do(x)))},
		"if a { } else { x ; if b { } }":               {choice(a, block(), block(do(x), choice(b, block())))},
		"if a { } else { while b { } }":                {choice(a, block(), block(while(b, block())))},
		"if a { if b { } }":                            {choice(a, block(choice(b, block())))},
		"if a { if b { } else { } } else { x ; }":      {choice(a, block(choice(b, block(), block())), block(do(x)))},
		"while a { if b { } }":                         {while(a, block(choice(b, block())))},
		"if a { } if b { } else { }":                   {choice(a, block()), choice(b, block(), block())},
		"let a = f ( 1 ) ; a = a ; print a ; return ;": {let("a", call("f", whole(1))), set("a", a), out(a), back()},
	} {
		expectPrint(t, "fn main ( ) { "+s+" }", inMain(l...)...)
		expectPrint(t, "fn f ( ) { while x { "+s+" } } fn g ( a ) { "+s+" }", fun("f", nil, while(x, block(l...))), fun("g", []string{"a"}, l...))
	}
}

// Promise 5.3, wrong inputs: trees that no text is read as.

func TestNoShow(t *testing.T) {
	a, b := variable("a"), variable("b")
	two := []api.Node{a, b}
	for _, n := range []api.Node{
		{}, {Kind: -1}, {Kind: 22}, {Kind: math.MaxInt}, {Kind: math.MinInt}, {S: "a"},
		let("a", b), set("a", b), choice(a, block()), while(a, block()), stop(), again(), back(), out(a), do(a), block(), block(do(a)),
		whole(-1), whole(math.MinInt64), imag(-1), imag(math.MinInt64),
		variable(""), variable("fn"), variable("nil"), variable("a b"), variable(" a"), variable("a "), variable("1"), variable("2i"), variable("a#"), variable("é"), variable("\"a\""), variable("a + b"), variable("f ( )"), variable("abcdefghijklmnopq"), variable("-"), variable("( a )"), variable("\n"), variable("a\n"), variable(strings.Repeat("a", 5000)),
		call("", a), call("fn", a), call("1", a), call("a b", a), call("-"), call("f ("), call("abcdefghijklmnopq"), call("f ( a ) ["), call("nil"), call("print", a), call("f", api.Node{}), call("f", do(a)), call("f", a, variable("")), call("f", variable("a , b")), call("f", variable("")),
		list(api.Node{}), list(block()), list(a, whole(-1)), list(variable("")), list(variable("a , b")),
		{Kind: api.EBin, L: two}, {Kind: api.EBin, Op: api.OPush, L: two}, {Kind: api.EBin, Op: api.OCx, L: two}, {Kind: api.EBin, Op: api.ONeg, L: two}, {Kind: api.EBin, Op: api.ONot, L: two}, {Kind: api.EBin, Op: api.OConj, L: two}, {Kind: api.EBin, Op: -1, L: two}, {Kind: api.EBin, Op: 21, L: two},
		{Kind: api.EBin, Op: api.OAdd}, {Kind: api.EBin, Op: api.OAdd, L: two[:1]}, {Kind: api.EBin, Op: api.OAdd, L: []api.Node{a, b, a}}, {Kind: api.EBin, Op: api.OGet, L: two[:1]}, {Kind: api.EBin, Op: api.OGet}, {Kind: api.EBin, Op: api.OGet, L: []api.Node{a, b, a}}, bin(api.OAdd, a, api.Node{}), bin(api.OAdd, do(a), b), bin(api.OGet, a, api.Node{}), bin(api.OEq, api.Node{}, a),
		{Kind: api.EUn, L: two[:1]}, {Kind: api.EUn, Op: api.OLen, L: two[:1]}, {Kind: api.EUn, Op: api.OSub, L: two[:1]}, {Kind: api.EUn, Op: api.OConj, L: two[:1]}, {Kind: api.EUn, Op: api.ONeg}, {Kind: api.EUn, Op: api.ONeg, L: two}, neg(api.Node{}), not(block()),
		{Kind: api.EAnd}, {Kind: api.EAnd, L: two[:1]}, {Kind: api.EAnd, L: []api.Node{a, b, a}}, {Kind: api.EOr}, {Kind: api.EOr, L: two[:1]}, {Kind: api.EOr, L: []api.Node{a, b, a}}, and(a, api.Node{}), or(api.Node{}, a),
	} {
		expectNoShow(t, n)
		expectNoShow(t, list(n))
		expectNoShow(t, call("f", a, n))
		expectNoShow(t, neg(n))
		expectNoShow(t, get(a, n))
		expectNoShow(t, or(n, a))
		expectNoPrint(t, inMain(out(n))...)
		expectNoPrint(t, inMain(choice(n, block()))...)
	}
}

// Each field that a kind has no words for.
func TestNeedlessFields(t *testing.T) {
	a, b := variable("a"), variable("b")
	sound := []api.Node{a, whole(1), imag(1), text("t"), none(), call("f"), call("f", a), list(), list(a), bin(api.OAdd, a, b), get(a, b), and(a, b), or(a, b), neg(a), not(a)}
	for _, n := range sound {
		if _, ok := parse.Show(n); !ok {
			t.Fatal(short(n))
		}
		for _, m := range []api.Node{withOp(n, 1), withOp(n, -1), withN(n, 7), withN(n, -1), withS(n, "s"), withMore(n)} {
			if m.Kind == n.Kind && sameTree(m, n) {
				continue
			}
			if sound := isSound(m, false); sound {
				continue
			}
			expectNoShow(t, m)
			expectNoShow(t, list(m))
			expectNoPrint(t, inMain(do(m))...)
		}
	}
	statements := []api.Node{let("a", b), set("a", b), choice(a, block()), choice(a, block(), block()), while(a, block()), stop(), again(), back(), back(a), out(a), do(a)}
	for _, n := range statements {
		if _, ok := parse.Print(inMain(n)); !ok {
			t.Fatal(short(n))
		}
		for _, m := range []api.Node{withOp(n, 1), withOp(n, -1), withN(n, 7), withN(n, -1), withS(n, "s t"), withMore(n), withMore(withMore(n)), withS(n, "fn")} {
			if isSound(m, true) {
				continue
			}
			expectNoPrint(t, inMain(m)...)
			expectNoPrint(t, inMain(while(a, block(m)))...)
		}
	}
	for _, b := range []api.Node{withOp(block(), 1), withN(block(), 1), withS(block(), "s")} {
		expectNoPrint(t, api.Fun{Name: "f", Body: b})
		expectNoPrint(t, inMain(while(a, b))...)
		expectNoPrint(t, inMain(choice(a, block(), b))...)
		expectNoPrint(t, inMain(choice(a, b))...)
	}
	// The block of an else that is one if alone has no words of its own, but no other fields either.
	for _, b := range []api.Node{withOp(block(choice(a, block())), 1), withN(block(choice(a, block())), 1), withS(block(choice(a, block())), "s")} {
		expectNoPrint(t, inMain(choice(a, block(), b))...)
	}
}

func withOp(n api.Node, op int) api.Node  { n.Op = op; return n }
func withN(n api.Node, x int64) api.Node  { n.N = x; return n }
func withS(n api.Node, s string) api.Node { n.S = s; return n }
func withMore(n api.Node) api.Node        { n.L = append(slices.Clone(n.L), variable("more")); return n }

func TestNoPrint(t *testing.T) {
	a := variable("a")
	for _, n := range []api.Node{
		{}, a, whole(1), block(), block(do(a)), {Kind: 22}, {Kind: -1}, {Kind: api.EVar}, call("f"),
		let("", a), let("let", a), let("1", a), let("a b", a), let("a = b", a), let("a", api.Node{}), let("a", do(a)), let("a", block()), {Kind: api.NLet, S: "a"}, {Kind: api.NLet, L: []api.Node{a}}, {Kind: api.NLet, S: "a", L: []api.Node{a, a}},
		set("", a), set("nil", a), set("a = b", a), set("let a", a), set("a", api.Node{}), {Kind: api.NSet, S: "a"}, {Kind: api.NSet, S: "a", L: []api.Node{a, a}}, set("abcdefghijklmnopq", a),
		choice(), choice(a), choice(block()), choice(a, a), choice(a, do(a)), choice(block(), block()), choice(a, block(), a), choice(a, block(), choice(a, block())), choice(a, block(), block(), block()), choice(a, choice(a, block())), choice(a, block(), api.Node{}), choice(api.Node{}, block()), choice(do(a), block()),
		while(), while(a), while(a, a), while(a, block(), block()), while(block(), block()), while(a, do(a)), while(a, choice(a, block())),
		{Kind: api.NBreak, L: []api.Node{a}}, {Kind: api.NContinue, L: []api.Node{a}}, {Kind: api.NBreak, S: "a"}, back(a, a), back(do(a)), back(block()), back(api.Node{}),
		{Kind: api.NPrint}, {Kind: api.NPrint, L: []api.Node{a, a}}, out(block()), out(api.Node{}), {Kind: api.NDo}, {Kind: api.NDo, L: []api.Node{a, a}}, do(do(a)), do(stop()), do(api.Node{}),
	} {
		expectNoPrint(t, inMain(n)...)
		expectNoPrint(t, inMain(do(a), n, do(a))...)
		expectNoPrint(t, inMain(while(a, block(n)))...)
		expectNoPrint(t, inMain(choice(a, block(), block(n)))...)
		expectNoPrint(t, fun("f", nil), fun("g", nil, n))
	}
	for _, name := range []string{"", "1", "fn", "nil", "f g", "f (", " f", "f ( ) { } fn g", "é", "abcdefghijklmnopq", strings.Repeat("f", 5000)} {
		expectNoPrint(t, fun(name, nil))
		expectNoPrint(t, fun("f", []string{name}))
		expectNoPrint(t, fun("f", []string{"a", name, "b"}))
	}
	expectNoPrint(t, fun("f", []string{"a , b"}))
	for _, b := range []api.Node{{}, a, do(a), choice(a, block()), whole(1), {Kind: api.NBlock, S: "a"}} {
		expectNoPrint(t, api.Fun{Name: "f", Body: b})
	}
}

// Promise 5.3: bounds. What is too deep, too many or too long to be read has no text.

func TestShowOfDeepTrees(t *testing.T) {
	a := variable("a")
	for i, wrap := range []func(api.Node) api.Node{
		neg, not,
		func(n api.Node) api.Node { return call("f", n) },
		func(n api.Node) api.Node { return list(n) },
		func(n api.Node) api.Node { return get(a, n) },
		func(n api.Node) api.Node { return bin(api.OSub, a, n) },
		func(n api.Node) api.Node { return bin(api.OEq, a, n) },
		func(n api.Node) api.Node { return bin(api.OLt, n, a) },
		func(n api.Node) api.Node { return or(a, n) },
		func(n api.Node) api.Node { return and(a, n) },
		func(n api.Node) api.Node { return call("f", a, n, a) },
		func(n api.Node) api.Node { return get(neg(n), a) },
	} {
		n := a
		for range 24 {
			n = wrap(n)
		}
		// Of the ops of two places the innermost stands in no parentheses; of an op ahead that is indexed there are two each.
		switch {
		case i >= 5 && i <= 9:
			n = wrap(n)
		case i == 11:
			n = a
			for range 12 {
				n = wrap(n)
			}
		}
		if s, ok := parse.Show(n); !ok || s == "" {
			t.Error(i)
		}
		showsBack(t, n)
		expectNoShow(t, wrap(n))
		expectNoPrint(t, inMain(out(n))...)
		expectNoShow(t, neg(list(n)))
	}
	n := block()
	for range 23 {
		n = block(while(a, n))
	}
	printsBack(t, []api.Fun{{Name: "f", Body: n}})
	expectNoPrint(t, api.Fun{Name: "f", Body: block(while(a, n))})
	n = choice(a, block())
	for range 200 {
		n = choice(a, block(), block(n))
	}
	printsBack(t, inMain(n))
	n = choice(a, block(), block(do(a), n))
	printsBack(t, inMain(n))
}

func TestShowOfLongTrees(t *testing.T) {
	for s, told := range map[string]string{"x": "x", "\n": `\n`, `"`: `\"`, `\`: `\\`} {
		n := 3998 / len(told)
		expectShow(t, text(strings.Repeat(s, n)), `"`+strings.Repeat(told, n)+`"`)
		expectNoShow(t, text(strings.Repeat(s, n+1)))
	}
	expectShow(t, list(text(strings.Repeat("x", 3994))), `[ "`+strings.Repeat("x", 3994)+`" ]`)
	expectNoShow(t, list(text(strings.Repeat("x", 3995))))
	expectNoShow(t, text(strings.Repeat("x", 1<<22)))
	for last, ok := range map[string]bool{"abc": true, "abcd": true, "abcde": false} {
		n := variable(last)
		for range 999 {
			n = bin(api.OAdd, n, variable("a"))
		}
		if s, told := parse.Show(n); told != ok || ok && len(s) != 3996+len(last) || !ok && s != "" {
			t.Error(last, len(s), told)
		}
	}
	n := variable("a")
	for range 999 {
		n = get(n, whole(7))
	}
	expectNoShow(t, n)
	n = variable("a")
	for range 666 {
		n = get(n, whole(7))
	}
	showsBack(t, n)
	// 2,000 words of one byte are the most, and as many nodes.
	n = neg(variable("a"))
	for range 999 {
		n = bin(api.OAdd, n, variable("a"))
	}
	expectShow(t, n, "- a"+strings.Repeat(" + a", 999))
	expectNoShow(t, neg(n))
	all := list(many(999)...)
	expectShow(t, all, "[ "+strings.Repeat("1 , ", 998)+"1 ]")
	expectNoShow(t, list(many(1000)...))
	expectShow(t, neg(all), "- [ "+strings.Repeat("1 , ", 998)+"1 ]")
	expectNoShow(t, neg(neg(all)))
	var l []api.Node
	for range 990 {
		l = append(l, do(whole(1)))
	}
	printsBack(t, inMain(l...))
	expectNoPrint(t, inMain(append(l, l...)...)...)
	l = l[:0]
	for range 995 {
		l = append(l, do(whole(1)))
	}
	expectPrint(t, "fn maine1 ( ) { "+strings.Repeat("1 ; ", 995)+"}", fun("maine1", nil, l...))
	expectNoPrint(t, fun("maine12345", nil, l...))
}

func TestPrintOfMany(t *testing.T) {
	var l []api.Fun
	for range 16 {
		l = append(l, fun("f", nil))
	}
	expectPrint(t, strings.TrimSpace(strings.Repeat("fn f ( ) { } ", 16)), l...)
	expectNoPrint(t, append(l, fun("f", nil))...)
	p := []string{"a", "b", "c", "d", "e", "f", "g", "h"}
	expectPrint(t, "fn f ( a , b , c , d , e , f , g , h ) { }", fun("f", p))
	expectNoPrint(t, fun("f", append(p, "i")))
	expectNoPrint(t, append(l[:15], fun("f", append(p, "i")))...)
	expectNoPrint(t, fun("f", make([]string, 1<<20)))
	expectNoPrint(t, make([]api.Fun, 1<<20)...)
}

// Promise 5.5: every call ends, also on trees that are deeper than any text, that fan out, or that hold themselves.
func TestEndlessTrees(t *testing.T) {
	a := variable("a")
	for _, n := range []api.Node{
		{Kind: api.EUn, Op: api.ONeg, L: make([]api.Node, 1)}, {Kind: api.EBin, Op: api.OAdd, L: make([]api.Node, 2)}, {Kind: api.EBin, Op: api.OGet, L: make([]api.Node, 2)}, {Kind: api.EBin, Op: api.OEq, L: make([]api.Node, 2)}, {Kind: api.EAnd, L: make([]api.Node, 2)}, {Kind: api.EList, L: make([]api.Node, 3)}, {Kind: api.ECall, S: "f", L: make([]api.Node, 1)}, {Kind: api.EVar, S: "a", L: make([]api.Node, 1)},
	} {
		for i := range n.L {
			n.L[i] = n
		}
		expectNoShow(t, n)
		expectNoPrint(t, inMain(do(n))...)
		n.L[0] = a
		if len(n.L) > 1 {
			expectNoShow(t, n)
		}
	}
	self := while(a, block())
	self.L[1] = block(self)
	self.L[1].L[0] = self
	expectNoPrint(t, inMain(self)...)
	self = choice(a, block(), block())
	other := make([]api.Node, 1)
	self.L[2] = block(other...)
	other[0] = self
	self.L[2].L = other
	expectNoPrint(t, inMain(self)...)
	fans, lists, deep, chain, blocks := a, a, a, choice(a, block()), block()
	for range 60 {
		fans, lists = bin(api.OAdd, fans, fans), list(lists, lists, lists)
	}
	for range 1 << 17 {
		deep = bin(api.OAdd, deep, a)
		chain = choice(a, block(), block(chain))
		blocks = block(while(a, blocks))
	}
	for _, n := range []api.Node{fans, lists, deep, neg(deep), list(make([]api.Node, 1<<20)...), call("f", make([]api.Node, 1<<20)...)} {
		expectNoShow(t, n)
		expectNoPrint(t, inMain(do(n))...)
	}
	expectNoPrint(t, inMain(chain)...)
	expectNoPrint(t, api.Fun{Name: "f", Body: blocks})
	expectNoPrint(t, inMain(make([]api.Node, 1<<20)...)...)
}

// Promise 5.4: there and back.

// told is a row of tokens as the chapter asks: parted by single blanks.
func told(l []lex.Token) string {
	var words []string
	for _, x := range l {
		switch x.Kind {
		case api.TInt:
			words = append(words, strconv.FormatInt(x.N, 10))
		case api.TImag:
			words = append(words, strconv.FormatInt(x.N, 10)+"i")
		case api.TText:
			s := strings.ReplaceAll(x.Text, `\`, `\\`)
			s = strings.ReplaceAll(s, `"`, `\"`)
			words = append(words, `"`+strings.ReplaceAll(s, "\n", `\n`)+`"`)
		default:
			words = append(words, x.Text)
		}
	}
	return strings.Join(words, " ")
}

// needless tells whether a pair of parentheses can be left out of s, so that it is still read as it was.
func needless(l []lex.Token, still func(s string) bool) bool {
	for i, x := range l {
		if x.Kind != api.TOp || x.Text != "(" || i > 0 && l[i-1].Kind == api.TName {
			continue
		}
		without := slices.Clone(l[:i])
		open := 1
		for k, y := range l[i+1:] {
			if y.Kind == api.TOp && y.Text == "(" {
				open++
			}
			if y.Kind == api.TOp && y.Text == ")" {
				open--
			}
			if open == 0 {
				without = append(append(without, l[i+1:i+1+k]...), l[i+2+k:]...)
				break
			}
		}
		if still(told(without)) {
			return true
		}
	}
	return false
}

// showsBack asks that n has a text, if the text is not too long, and that it is as the chapter asks.
func showsBack(t *testing.T, n api.Node) {
	t.Helper()
	s, ok := parse.Show(n)
	if !ok {
		if s != "" || wordsOf(n) < 800 {
			t.Fatalf("no text of %s", short(n))
		}
		return
	}
	again, at, e := parse.Expr(s)
	if !sameTree(again, n) || at != 0 || e != api.OK {
		t.Fatalf("%.300q is not read as %s: %d, %d", s, short(n), at, e)
	}
	l, _, _ := lex.Tokens(s)
	if told(l) != s {
		t.Fatalf("%.300q is not parted by single blanks", s)
	}
	if needless(l, func(s string) bool { m, _, e := parse.Expr(s); return e == api.OK && sameTree(m, n) }) {
		t.Fatalf("%.300q has needless parentheses", s)
	}
}

func printsBack(t *testing.T, funs []api.Fun) {
	t.Helper()
	s, ok := parse.Print(funs)
	if !ok {
		words := 0
		for _, f := range funs {
			words += 8 + wordsOf(f.Body)
		}
		if s != "" || words < 800 {
			t.Fatalf("no text of %s", short(funs))
		}
		return
	}
	again, at, e := parse.Program(s)
	if !sameFuns(again, funs) || at != 0 || e != api.OK {
		t.Fatalf("%.300q is not read as %s: %d, %d", s, short(funs), at, e)
	}
	l, _, _ := lex.Tokens(s)
	if told(l) != s {
		t.Fatalf("%.300q is not parted by single blanks", s)
	}
	if needless(l, func(s string) bool { m, _, e := parse.Program(s); return e == api.OK && sameFuns(m, funs) }) {
		t.Fatalf("%.300q has needless parentheses", s)
	}
}

// wordsOf is no less than how many words n has.
func wordsOf(n api.Node) int {
	words := 8 + len(n.S)
	for _, x := range n.L {
		words += wordsOf(x)
	}
	return words
}

// Any trees, sound ones.

func anyName(r *rand.Rand) string {
	return []string{"a", "b", "f", "x1", "_", "abcdefghijklmnop", "Fn", "i"}[r.Intn(8)]
}

func anyExpr(r *rand.Rand, deep int) api.Node {
	if deep == 0 {
		return []api.Node{variable(anyName(r)), whole(r.Int63()), whole(int64(r.Intn(9))), imag(r.Int63()), text([]string{"", "a b", "\"\\\n", "( a )", "\xff"}[r.Intn(5)]), none(), call(anyName(r)), list()}[r.Intn(8)]
	}
	in := func() api.Node { return anyExpr(r, r.Intn(deep)) }
	var l []api.Node
	for range r.Intn(4) {
		l = append(l, in())
	}
	all := signs()
	x := all[r.Intn(len(all))]
	switch r.Intn(8) {
	case 0:
		return neg(in())
	case 1:
		return not(in())
	case 2:
		return get(in(), in())
	case 3:
		return call(anyName(r), l...)
	case 4:
		return list(l...)
	}
	return api.Node{Kind: x.kind, Op: x.num, L: []api.Node{in(), in()}}
}

func anyBlock(r *rand.Rand, deep int) api.Node {
	n := block()
	for range r.Intn(4) {
		n.L = append(n.L, anyStatement(r, deep))
	}
	return n
}

func anyStatement(r *rand.Rand, deep int) api.Node {
	e := anyExpr(r, r.Intn(3))
	k := r.Intn(12)
	if deep == 0 {
		k = r.Intn(8)
	}
	switch k {
	case 0:
		return let(anyName(r), e)
	case 1:
		return set(anyName(r), e)
	case 2:
		return stop()
	case 3:
		return again()
	case 4:
		return back()
	case 5:
		return back(e)
	case 6:
		return out(e)
	case 7:
		return do(e)
	case 8:
		return while(e, anyBlock(r, deep-1))
	case 9:
		return choice(e, anyBlock(r, deep-1))
	case 10:
		return choice(e, anyBlock(r, deep-1), anyBlock(r, deep-1))
	}
	return choice(e, anyBlock(r, deep-1), block(choice(e, anyBlock(r, deep-1), anyBlock(r, deep-1))))
}

func anyProgram(r *rand.Rand) (l []api.Fun) {
	for range r.Intn(4) {
		var p []string
		for range r.Intn(4) {
			p = append(p, anyName(r))
		}
		l = append(l, api.Fun{Name: anyName(r), Params: p, Body: anyBlock(r, r.Intn(3))})
	}
	return l
}

func TestAnyTrees(t *testing.T) {
	r := rand.New(rand.NewSource(55))
	for range 8000 {
		showsBack(t, anyExpr(r, r.Intn(6)))
	}
	for range 2000 {
		printsBack(t, anyProgram(r))
	}
}

// wrapped is a text of n that has more parentheses than it needs: Expr reads it as n all the same.
func wrapped(r *rand.Rand, n api.Node) string {
	var l []string
	for _, x := range n.L {
		l = append(l, wrapped(r, x))
	}
	gap := []string{"", " ", "\n", " #(\n"}[r.Intn(4)]
	s := ""
	switch n.Kind {
	case api.EUn:
		s = map[int]string{api.ONeg: "-", api.ONot: "!"}[n.Op] + gap + l[0]
	case api.ECall:
		s = n.S + gap + "(" + strings.Join(l, ",") + ")"
	case api.EList:
		s = "[" + strings.Join(l, gap+",") + "]"
	case api.EBin, api.EAnd, api.EOr:
		if n.Op == api.OGet {
			s = l[0] + "[" + gap + l[1] + "]"
			break
		}
		for _, x := range signs() {
			if x.kind == n.Kind && x.num == n.Op {
				s = l[0] + x.s + gap + l[1]
			}
		}
	default:
		s, _ = parse.Show(n)
	}
	return "(" + gap + s + ")"
}

func TestNeedlessParentheses(t *testing.T) {
	r := rand.New(rand.NewSource(56))
	for range 20000 {
		n := anyExpr(r, r.Intn(5))
		if s := wrapped(r, n); len(s) <= 4000 {
			expectExpr(t, s, n)
		}
	}
}

// Any nodes, sound or not: Show and Print tell just the sound ones.

// isSound tells whether n, which is neither deep nor long, is an expression or a statement with all fields as the chapter has them.
func isSound(n api.Node, statement bool) bool {
	all := func(kinds ...func(api.Node) bool) bool {
		for i, is := range kinds {
			if len(n.L) != len(kinds) || !is(n.L[i]) {
				return false
			}
		}
		return len(n.L) == len(kinds)
	}
	e := func(n api.Node) bool { return isSound(n, false) }
	noS, noN, noOp := n.S == "", n.N == 0, n.Op == 0
	plain := noS && noN && noOp
	named := noN && noOp && lex.Name(n.S)
	if statement {
		switch n.Kind {
		case api.NLet, api.NSet:
			return named && all(e)
		case api.NIf:
			return plain && (all(e, isSoundBlock) || all(e, isSoundBlock, isSoundBlock))
		case api.NWhile:
			return plain && all(e, isSoundBlock)
		case api.NBreak, api.NContinue:
			return plain && all()
		case api.NReturn:
			return plain && (all() || all(e))
		case api.NPrint, api.NDo:
			return plain && all(e)
		}
		return false
	}
	switch n.Kind {
	case api.EBin:
		return noS && noN && n.Op >= api.OAdd && n.Op <= api.OGet && all(e, e)
	case api.EAnd, api.EOr:
		return plain && all(e, e)
	case api.EUn:
		return noS && noN && (n.Op == api.ONeg || n.Op == api.ONot) && all(e)
	case api.EInt, api.EImag:
		return noS && noOp && n.N >= 0 && all()
	case api.EText:
		return noN && noOp && all()
	case api.ENil:
		return plain && all()
	case api.EVar:
		return named && all()
	case api.ECall:
		return named && !slices.ContainsFunc(n.L, func(n api.Node) bool { return !e(n) })
	case api.EList:
		return plain && !slices.ContainsFunc(n.L, func(n api.Node) bool { return !e(n) })
	}
	return false
}

func isSoundBlock(n api.Node) bool {
	return n.Kind == api.NBlock && n.Op == 0 && n.S == "" && n.N == 0 && !slices.ContainsFunc(n.L, func(n api.Node) bool { return !isSound(n, true) })
}

// anyNode is mostly nearly sound.
func anyNode(r *rand.Rand, deep int) api.Node {
	n := anyExpr(r, deep)
	if r.Intn(2) == 0 {
		n = anyStatement(r, min(deep, 2))
	}
	broken := func(n *api.Node) {
		switch r.Intn(6) {
		case 0:
			n.Kind = r.Intn(24) - 1
		case 1:
			n.Op = r.Intn(23) - 1
		case 2:
			n.N = int64(r.Intn(4) - 2)
		case 3:
			n.S = []string{"", "a", "if", "1", "a b", "-", "nil", "\n", "f ( )"}[r.Intn(9)]
		case 4:
			n.L = append(n.L, anyExpr(r, 0))
		case 5:
			n.L = n.L[:r.Intn(len(n.L)+1)]
		}
	}
	at := &n
	for len(at.L) > 0 && r.Intn(3) > 0 {
		at = &at.L[r.Intn(len(at.L))]
	}
	broken(at)
	return n
}

func TestAnyNodes(t *testing.T) {
	r := rand.New(rand.NewSource(57))
	for range 60000 {
		n := anyNode(r, r.Intn(4))
		if s, ok := parse.Show(n); ok != isSound(n, false) || !ok && s != "" {
			t.Fatalf("Show(%s): %q, %v", short(n), s, ok)
		}
		if s, ok := parse.Print(inMain(n)); ok != isSound(n, true) || !ok && s != "" {
			t.Fatalf("Print(%s): %q, %v", short(n), s, ok)
		}
		if s, ok := parse.Print([]api.Fun{{Name: "f", Body: n}}); ok != isSoundBlock(n) || !ok && s != "" {
			t.Fatalf("Print(%s): %q, %v", short(n), s, ok)
		}
	}
}

// Rule 3: what is handed in is not changed, nor kept; what is answered is new memory.

func room(n api.Node) (l [][]api.Node) {
	if cap(n.L) > 0 {
		l = append(l, n.L[:cap(n.L)])
	}
	for _, x := range n.L {
		l = append(l, room(x)...)
	}
	return l
}

func TestListsAreNewMemory(t *testing.T) {
	const s = "fn f(a,b,c){let x=[1,2,3,f(x,y,z)];if a{}else if b{x=1;}else{print -x[0];}while a&&b{break;return a+b+c;}}fn g(a){}"
	first, _, _ := parse.Program(s)
	second, _, _ := parse.Program(s)
	known := map[*api.Node]int{}
	for _, f := range append(slices.Clone(first), second...) {
		for _, l := range room(f.Body) {
			for i := range l {
				if known[&l[i]]++; known[&l[i]] > 1 {
					t.Fatal("two lists share memory")
				}
			}
		}
	}
	for _, f := range first {
		for _, l := range room(f.Body) {
			for i := range l {
				l[i] = api.Node{Kind: 77, S: "changed"}
			}
		}
		p := f.Params[:cap(f.Params)]
		for i := range p {
			p[i] = "changed"
		}
	}
	third, _, _ := parse.Program(s)
	if !sameFuns(second, third) {
		t.Error(short(third))
	}
	printsBack(t, second)
}

func TestTextsAreNewMemory(t *testing.T) {
	s := strings.Clone("fn name(param){let variable=call(\"a long text\",other);other=param;}")
	l, _, e := parse.Program(s)
	if e != api.OK {
		t.Fatal(e)
	}
	first := uintptr(unsafe.Pointer(unsafe.StringData(s)))
	check := func(x string) {
		if at := uintptr(unsafe.Pointer(unsafe.StringData(x))); x != "" && at >= first && at < first+uintptr(len(s)) {
			t.Errorf("%q is a piece of what was handed in", x)
		}
	}
	check(l[0].Name)
	check(l[0].Params[0])
	for _, nodes := range room(l[0].Body) {
		for _, n := range nodes {
			check(n.S)
		}
	}
}

func TestNothingIsChanged(t *testing.T) {
	r := rand.New(rand.NewSource(58))
	for range 300 {
		l := anyProgram(r)
		for i := range l {
			l[i].Body.L = append(l[i].Body.L, api.Node{Kind: 77, S: "spare"})[:len(l[i].Body.L)]
		}
		before := bareFuns(l)
		var spare []api.Node
		for _, f := range l {
			spare = append(spare, f.Body.L[:len(f.Body.L)+1]...)
		}
		spare = bare(list(spare...)).L
		s, _ := parse.Print(l)
		if again, _ := parse.Print(l); again != s {
			t.Fatalf("%q, then %q", s, again)
		}
		var after []api.Node
		for _, f := range l {
			after = append(after, f.Body.L[:len(f.Body.L)+1]...)
		}
		if !sameFuns(before, l) || !sameTree(list(spare...), list(after...)) {
			t.Fatal("what was handed in is changed")
		}
	}
}
