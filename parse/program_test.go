package parse_test

import (
	"strconv"
	"strings"
	"testing"

	"ratline/api"
	"ratline/parse"
)

// Promise 5.1: each statement.

func TestStatements(t *testing.T) {
	a, b, x := variable("a"), variable("b"), variable("x")
	for s, l := range map[string][]api.Node{
		"":         nil,
		"let a=1;": {let("a", whole(1))}, "let a = a || b;": {let("a", or(a, b))}, "let a=a==b;": {let("a", bin(api.OEq, a, b))},
		"a=1;": {set("a", whole(1))}, "a=b;": {set("a", b)}, "a = a == b;": {set("a", bin(api.OEq, a, b))}, "a=-b;": {set("a", neg(b))}, "a=!b;": {set("a", not(b))}, "a=f();": {set("a", call("f"))},
		"a==b;": {do(bin(api.OEq, a, b))}, "a!=b;": {do(bin(api.ONe, a, b))}, "a<=b;": {do(bin(api.OLe, a, b))},
		"if a{}": {choice(a, block())}, "if a{x;}": {choice(a, block(do(x)))}, "if(a){}": {choice(a, block())}, "if a{}else{}": {choice(a, block(), block())}, "if a{x;}else{a;b;}": {choice(a, block(do(x)), block(do(a), do(b)))},
		"if a{}else if b{}":                      {choice(a, block(), block(choice(b, block())))},
		"if a{}else{if b{}}":                     {choice(a, block(), block(choice(b, block())))},
		"if a{}else{if b{}x;}":                   {choice(a, block(), block(choice(b, block()), do(x)))},
		"if a{}else{x;if b{}}":                   {choice(a, block(), block(do(x), choice(b, block())))},
		"if a{}else if b{}else{x;}":              {choice(a, block(), block(choice(b, block(), block(do(x)))))},
		"if a{}else if b{}else if x{}else{a;}b;": {choice(a, block(), block(choice(b, block(), block(choice(x, block(), block(do(a))))))), do(b)},
		"if a{if b{}else{}}else{}":               {choice(a, block(choice(b, block(), block())), block())},
		"if a{if b{}}else{}":                     {choice(a, block(choice(b, block())), block())},
		"if a{}if b{}else{}":                     {choice(a, block()), choice(b, block(), block())},
		"if a==b{}":                              {choice(bin(api.OEq, a, b), block())}, "if f(a){}": {choice(call("f", a), block())}, "if [a]{}": {choice(list(a), block())},
		"while a{}": {while(a, block())}, "while a<3{x;break;continue;}": {while(bin(api.OLt, a, whole(3)), block(do(x), stop(), again()))}, "while a{while b{}}": {while(a, block(while(b, block())))},
		"break;": {stop()}, "continue ;": {again()}, "break;break;": {stop(), stop()},
		"return;": {back()}, "return ;": {back()}, "return a;": {back(a)}, "return(a);": {back(a)}, "return nil;": {back(none())}, "return-a;": {back(neg(a))}, "return a==b;": {back(bin(api.OEq, a, b))}, "return;a;": {back(), do(a)},
		"print a;": {out(a)}, "print(a);": {out(a)}, "print\"a\";": {out(text("a"))}, "print[a];": {out(list(a))}, "print-a;": {out(neg(a))}, "print!a;": {out(not(a))},
		"a;": {do(a)}, "1;": {do(whole(1))}, "2i;": {do(imag(2))}, "\"a\";": {do(text("a"))}, "nil;": {do(none())}, "f(a);": {do(call("f", a))}, "[];": {do(list())}, "(a);": {do(a)}, "-a;": {do(neg(a))}, "!a;": {do(not(a))}, "a[b];": {do(get(a, b))}, "a+b;": {do(bin(api.OAdd, a, b))}, "a||b;": {do(or(a, b))},
		"let a=1;a=2;print a;return a;": {let("a", whole(1)), set("a", whole(2)), out(a), back(a)},
	} {
		expectProgram(t, "fn main(){"+s+"}", inMain(l...)...)
		expectProgram(t, "fn f(a){while x{if a{"+s+"}"+s+"}}fn main(){}", fun("f", []string{"a"}, while(x, block(append([]api.Node{choice(a, block(l...))}, l...)...))), fun("main", nil))
	}
}

func TestFunctions(t *testing.T) {
	expectProgram(t, "")
	expectProgram(t, " # nothing")
	expectProgram(t, "fn f(){}", fun("f", nil))
	expectProgram(t, "fn f(a){}", fun("f", []string{"a"}))
	expectProgram(t, "fn f ( a , b ) { } fn g(a){return a;}", fun("f", []string{"a", "b"}), fun("g", []string{"a"}, back(variable("a"))))
	// Names that stand twice, and a main that is not there, are not asked here.
	expectProgram(t, "fn f(a,a,f){}fn f(){}fn len(){}", fun("f", []string{"a", "a", "f"}), fun("f", nil), fun("len", nil))
	expectProgram(t, "fn f(){x=y;break;g(1,2);}", fun("f", nil, set("x", variable("y")), stop(), do(call("g", whole(1), whole(2)))))
	expectProgram(t, "fn f(abcdefghijklmnop){}", fun("f", []string{"abcdefghijklmnop"}))
}

// Promise 5.1, wrong inputs: the first token that does not go on.

func TestWrongFunctions(t *testing.T) {
	for s, at := range map[string]int{
		"x": 0, "1": 0, "{": 0, "}": 0, ";": 0, "let a=1;": 0, "Fn f(){}": 0, "\"fn\" f(){}": 0, "fn": 2, "fn ": 3, "fn 1": 3, "fn fn": 3, "fn nil(){}": 3, "fn \"f\"(){}": 3, "fn (){}": 3, "fn f": 4, "fn f{}": 4, "fn f g(){}": 5, "fn f[": 4,
		"fn f(": 5, "fn f(a": 6, "fn f(a,": 7, "fn f(a,)": 7, "fn f(,)": 5, "fn f(a b)": 7, "fn f(1)": 5, "fn f(a,1)": 7, "fn f(if)": 5, "fn f(nil)": 5, "fn f((a))": 5, "fn f(a=1)": 6, "fn f(a]": 6, "fn f(a;b)": 6, "fn f(-a)": 5,
		"fn f()": 6, "fn f() ": 7, "fn f();": 6, "fn f()x": 6, "fn f()fn": 6, "fn f()[]": 6, "fn f()return 1;": 6, "fn f()==": 6,
		"fn f(){": 7, "fn f(){ ": 8, "fn f(){}}": 8, "fn f(){};": 8, "fn f(){}x": 8, "fn f(){}fn": 10, "fn f(){}{}": 8, "fn f(){fn g(){}}": 7,
	} {
		expectProgramError(t, s, at, api.ErrSyntax)
	}
}

func TestWrongStatements(t *testing.T) {
	for s, at := range map[string]int{
		";": 0, "{}": 0, "else{}": 0, ")": 0, "]": 0, ",": 0, "=": 0, "=1;": 0, "fn": 0,
		"x": 1, "x}": 1, "x x;": 2, "x,x;": 1, "1=2;": 1, "x = ;": 4, "x=": 2, "x=}": 2, "x=1": 3, "x=1}": 3, "x=1=2;": 3, "x=y=1;": 3, "x==;": 3, "x===1;": 3, "x = = 1;": 4, "x[0]=1;": 4, "f()=1;": 3, "(x)=1;": 3, "-x=1;": 2, "nil=1;": 3, "x+y=1;": 3, "x:=1;": -1, "x+=1;": 2, "x=let;": 2,
		"let": 3, "let;": 3, "let x;": 5, "let = 1;": 4, "let 1=1;": 4, "let if=1;": 4, "let nil=1;": 4, "let x 1;": 6, "let x==1;": 5, "let x=;": 6, "let x=1": 7, "let x=1}": 7, "let x=1,y=2;": 7, "let x[0]=1;": 5, "let let x=1;": 4, "let \"x\"=1;": 4, "let x=y=1;": 7,
		"if": 2, "if;": 2, "if {}": 3, "if a": 4, "if a x;": 5, "if a;": 4, "if a{": 5, "if a{x}": 6, "if a{};": 6, "if a{}else": 10, "if a{}else x;": 11, "if a{}else;": 10, "if a{}else{": 11, "if a{}else if{}": 13, "if a{}else if b": 15, "if a{}else if b;": 15, "if a{}else while b{}": 11, "if a{}else{}else{}": 12, "if a{}else if b{}else{}else{}": 23, "if a{}else else{}": 11, "if a b{}": 5, "if()": 3, "if let{}": 3, "if a=b{}": 4,
		"while": 5, "while;": 5, "while {}": 6, "while a": 7, "while a x;": 8, "while a;": 7, "while a{": 8, "while a{};": 9, "while a{}else{}": 9, "while while": 6,
		"break": 5, "break}": 5, "break 1;": 6, "break break;": 6, "continue": 8, "continue}": 8, "continue x;": 9,
		"return": 6, "return}": 6, "return a": 8, "return a b;": 9, "return a=b;": 8, "return return;": 7, "return if;": 7, "return,;": 6,
		"print": 5, "print;": 5, "print}": 5, "print a": 7, "print a,b;": 7, "print a b;": 8, "print print;": 6, "print=1;": 5, "print a=b;": 7,
	} {
		if at < 0 { // lex's
			at = strings.Index(s, ":")
		}
		expectProgramError(t, "fn f(){"+s, 7+at, api.ErrSyntax)
		expectProgramError(t, "fn f(){x;}fn g(a){while a{"+s, 26+at, api.ErrSyntax)
		expectProgramError(t, "fn f(){if a{}else{"+s, 18+at, api.ErrSyntax)
	}
}

// A fault in an expression is a fault of its statement, in each place that an expression has.
func TestWrongExprsInStatements(t *testing.T) {
	for _, front := range []string{"let a = ", "a = ", "if ", "while ", "return ", "print ", "if a { } else if ", "1 + ", "f ( "} {
		for s, at := range map[string]int{"a + ;": 4, "a == b == c;": 7, "( a ;": 4, "[ a , ] ;": 6, "a b;": 2, "* a": 0, "- ": 2, "a [ ] ;": 4, "f ( a": 7} {
			s, at = "fn f ( ) { "+front+s, at+11+len(front)
			expectProgramError(t, s, min(at, len(s)), api.ErrSyntax)
		}
	}
}

// Promise 5.1: how deep.

// opener is something that counts as open: what opens it, at which byte of that, and what ends it.
type opener struct {
	open string
	at   int
	end  string
}

func openers() []opener {
	return []opener{{"(", 0, ")"}, {"[", 0, "]"}, {"- ", 0, ""}, {"!", 0, ""}, {"f(", 0, ")"}, {"a[", 1, "]"}, {"f (a, ", 0, ")"}, {"[1, ", 0, "]"}, {"(1+", 0, ")"}, {"nil [", 4, "]"}}
}

// nested is such things within one another, from the outermost on, and the place of the last one's first token.
func nested(l []opener) (s string, at int) {
	end := ""
	for _, o := range l {
		at = len(s) + o.at
		s += o.open
		end = o.end + end
	}
	return s + "a" + end, at
}

func repeated(o opener, n int) (l []opener) {
	for range n {
		l = append(l, o)
	}
	return l
}

func TestDepthOfExprs(t *testing.T) {
	for _, o := range openers() {
		s, _ := nested(repeated(o, 24))
		if _, at, e := parse.Expr(s); at != 0 || e != api.OK {
			t.Errorf("%q: %d, %d", s, at, e)
		}
		s, at := nested(repeated(o, 25))
		expectExprError(t, s, at, api.ErrDeep)
		expectExprError(t, s+" b", at, api.ErrDeep)
		// Each thing within 24 of each other.
		for _, in := range openers() {
			s, _ := nested(append(repeated(o, 23), in))
			if _, at, e := parse.Expr(s); at != 0 || e != api.OK {
				t.Errorf("%q: %d, %d", s, at, e)
			}
			s, at := nested(append(repeated(o, 24), in))
			expectExprError(t, s, at, api.ErrDeep)
		}
	}
}

// What is closed does not count.
func TestWhatIsClosed(t *testing.T) {
	for _, s := range []string{
		"(a)", "[a]", "[]", "f(a)", "f()", "a[0]", "-a", "!a", "- - a", "(a)[0]", "f(a)[0]", "-a[0]", "-(a)", "[a][0][0]", "-f(a)",
	} {
		chain := s + strings.Repeat("+"+s, 60)
		if _, at, e := parse.Expr(chain); at != 0 || e != api.OK {
			t.Errorf("%q: %d, %d", chain, at, e)
		}
		items := strings.Repeat("[", 22) + s + strings.Repeat(","+s, 60) + strings.Repeat("]", 22)
		if _, at, e := parse.Expr(items); at != 0 || e != api.OK {
			t.Errorf("%q: %d, %d", items, at, e)
		}
	}
	expectExprError(t, strings.Repeat("[", 23)+"a+(-a)", 26, api.ErrDeep)
	expectExprError(t, strings.Repeat("[", 23)+"(a)+(-a)", 28, api.ErrDeep)
	expectExprError(t, strings.Repeat("[", 23)+"-a[0]", 25, api.ErrDeep)
	expectExprError(t, strings.Repeat("[", 23)+"-a+-a*-f(a)", 30, api.ErrDeep)
	expectExprError(t, strings.Repeat("-", 24)+"a[0]", 25, api.ErrDeep)
	expectExprError(t, strings.Repeat("-", 24)+"f(a)", 24, api.ErrDeep)
	expectExprError(t, strings.Repeat("-", 24)+" f g(a)", 27, api.ErrSyntax)
}

func TestDepthOfBlocks(t *testing.T) {
	for _, front := range []string{"if a", "while a", "if a{}else", "if a{}else if b", "if a{}else if b{}else"} {
		inner := func(n int) string {
			return "fn f(){" + strings.Repeat(front+"{", n) + strings.Repeat("}", n) + "}"
		}
		if _, at, e := parse.Program(inner(23)); at != 0 || e != api.OK {
			t.Error(front, at, e)
		}
		expectProgramError(t, inner(24), 7+23*(len(front)+1)+strings.Index(front+"{", "{"), api.ErrDeep)
	}
	// Blocks and expressions count together.
	for _, o := range openers() {
		for blocks := 1; blocks <= 23; blocks++ {
			front := "fn f(){" + strings.Repeat("if a{", blocks-1)
			back := ";" + strings.Repeat("}", blocks)
			s, _ := nested(repeated(o, 24-blocks))
			if _, at, e := parse.Program(front + "print " + s + back); at != 0 || e != api.OK {
				t.Errorf("%d %q: %d, %d", blocks, s, at, e)
			}
			s, at := nested(repeated(o, 25-blocks))
			expectProgramError(t, front+"print "+s+back, len(front)+6+at, api.ErrDeep)
		}
	}
	// Functions stand behind one another, and parameters are in no brackets that count.
	expectProgramError(t, "fn g(a){}fn f(a){"+strings.Repeat("while a{", 24), 17+24*8-1, api.ErrDeep)
}

// An if behind an else opens none.
func TestElseIfOpensNone(t *testing.T) {
	for _, front := range []string{"fn f(){", "fn f(){" + strings.Repeat("while a{", 22)} {
		back := strings.Repeat("}", strings.Count(front, "{"))
		if _, at, e := parse.Program(front + "if a{}" + strings.Repeat("else if a{}", 300) + "else{}" + back); at != 0 || e != api.OK {
			t.Error(at, e)
		}
	}
	front := "fn f(){" + strings.Repeat("while a{", 23)
	s := front + "if a{}else if a{}"
	expectProgramError(t, s, len(front)+4, api.ErrDeep)
	front = "fn f(){" + strings.Repeat("while a{", 22)
	expectProgramError(t, front+"if a{}else if a{}else{if a{", len(front)+26, api.ErrDeep)
	if _, at, e := parse.Program(front + "if a{}else if a{}else if a{}" + strings.Repeat("}", 23)); at != 0 || e != api.OK {
		t.Error(at, e)
	}
	// Another if in the block behind an else does.
	open, end := "", ""
	for range 23 {
		open, end = open+"if a{}else{", end+"}"
	}
	if _, at, e := parse.Program("fn f(){" + open + end + "}"); at != 0 || e != api.OK {
		t.Error(at, e)
	}
	expectProgramError(t, "fn f(){"+open+"if a{}else{", 7+23*11+4, api.ErrDeep)
}

// Of what is too deep and what does not go on, that is told which comes first.
func TestWhichFaultComesFirst(t *testing.T) {
	deep := strings.Repeat("(", 24)
	expectExprError(t, deep+"(", 24, api.ErrDeep)
	expectExprError(t, deep+"()", 24, api.ErrDeep)
	expectExprError(t, deep+"a b (", 26, api.ErrSyntax)
	expectExprError(t, deep+")(", 24, api.ErrSyntax)
	expectExprError(t, deep+"a(", 24, api.ErrDeep)
	expectExprError(t, deep+"a", 25, api.ErrSyntax)
	expectExprError(t, deep+"a[", 25, api.ErrDeep)
	expectExprError(t, deep+"a-(", 26, api.ErrDeep)
	expectExprError(t, deep+"a--", 26, api.ErrDeep)
	expectExprError(t, deep+"1(", 25, api.ErrSyntax)
	expectExprError(t, deep+"if(", 24, api.ErrSyntax)
	expectExprError(t, deep+"a b(", 26, api.ErrSyntax)
	expectExprError(t, strings.Repeat("(", 4000), 24, api.ErrDeep)
	expectExprError(t, strings.Repeat("[", 4000), 24, api.ErrDeep)
	expectExprError(t, strings.Repeat("-", 4000), 24, api.ErrDeep)
	expectExprError(t, strings.Repeat("!", 4000), 24, api.ErrDeep)
	expectExprError(t, strings.Repeat("f(", 2000), 48, api.ErrDeep)
	expectExprError(t, strings.Repeat("a[", 2000), 49, api.ErrDeep)
	blocks := "fn f(){" + strings.Repeat("if a{", 23)
	n := len(blocks)
	expectProgramError(t, blocks+"if a x", n+5, api.ErrSyntax)
	expectProgramError(t, blocks+"if a", n+4, api.ErrSyntax)
	expectProgramError(t, blocks+"if {", n+3, api.ErrSyntax)
	expectProgramError(t, blocks+"while a {", n+8, api.ErrDeep)
	expectProgramError(t, blocks+"{", n, api.ErrSyntax)
	expectProgramError(t, blocks+"x", n+1, api.ErrSyntax)
	expectProgramError(t, blocks+"x(", n, api.ErrDeep)
	expectProgramError(t, blocks+"x=(", n+2, api.ErrDeep)
	expectProgramError(t, blocks+"let x(", n+5, api.ErrSyntax)
	expectProgramError(t, blocks+"let x=y(", n+6, api.ErrDeep)
	expectProgramError(t, strings.Repeat("fn f(){if a{", 333), 12, api.ErrSyntax)
}

// Promise 5.1: how many, behind all else.

func functions(n int) string {
	return strings.Repeat("fn f(){}", n)
}

func withParams(n int) string {
	var l []string
	for i := range n {
		l = append(l, "p"+strconv.Itoa(i))
	}
	return "fn f(" + strings.Join(l, ",") + "){}"
}

func TestHowMany(t *testing.T) {
	var l []api.Fun
	for range 16 {
		l = append(l, fun("f", nil))
	}
	expectProgram(t, functions(16), l...)
	expectProgramError(t, functions(17), 0, api.ErrMany)
	expectProgramError(t, " "+functions(400), 0, api.ErrMany)
	expectProgram(t, withParams(8), fun("f", []string{"p0", "p1", "p2", "p3", "p4", "p5", "p6", "p7"}))
	expectProgramError(t, withParams(9), 0, api.ErrMany)
	expectProgramError(t, withParams(500), 0, api.ErrMany)
	expectProgramError(t, withParams(8)+withParams(9), 0, api.ErrMany)
	expectProgramError(t, withParams(9)+withParams(8), 0, api.ErrMany)
	expectProgramError(t, functions(15)+withParams(9), 0, api.ErrMany)
	expectProgramError(t, functions(16)+withParams(9), 0, api.ErrMany)
	// Operands of calls are not counted.
	if _, at, e := parse.Program("fn f(){f(" + strings.Repeat("a,", 200) + "a);}"); at != 0 || e != api.OK {
		t.Error(at, e)
	}
	for _, many := range []string{functions(17), withParams(9), functions(17) + withParams(9)} {
		n := len(many)
		expectProgramError(t, many+"x", n, api.ErrSyntax)
		expectProgramError(t, many+" fn", n+3, api.ErrSyntax)
		expectProgramError(t, many+"fn f(){print "+strings.Repeat("(", 24)+"a", n+13+23, api.ErrDeep)
		expectProgramError(t, many+" $", n+1, api.ErrSyntax)
		expectProgramError(t, many+strings.Repeat(" ", 4001), 0, api.ErrLong)
	}
	expectProgramError(t, "x"+functions(17), 0, api.ErrSyntax)
	expectProgramError(t, "fn f(a,b,c,d,e,f,g,h,1){}", 21, api.ErrSyntax)
	expectProgramError(t, "fn f(a,b,c,d,e,f,g,h,i){", 24, api.ErrSyntax)
}
