package gen_test

import (
	"strings"
	"testing"

	"ratline/api"
	"ratline/parse"
	"ratline/scope"
)

// Promise 8.1: what parse and scope refuse, and the place that Source tells.

func TestSourcesThatAreNoPrograms(t *testing.T) {
	for _, c := range []struct {
		s  string
		at int
		e  api.Errno
	}{
		{"fn main() { 1 }", 14, api.ErrSyntax}, {"fn main( { }", 9, api.ErrSyntax}, {"fn main() { x = ; }", 16, api.ErrSyntax}, {"fn main() {", 11, api.ErrSyntax}, {"x", 0, api.ErrSyntax}, {"fn main() { } $", 14, api.ErrSyntax}, {"fn main() { \"a }", 12, api.ErrSyntax}, {"fn main() { let main; }", 20, api.ErrSyntax}, {"fn main() { 9223372036854775808; }", 12, api.ErrSyntax}, {"fn abcdefghijklmnopq() { }", 3, api.ErrSyntax}, {"\xff", 0, api.ErrSyntax},
		{strings.Repeat(" ", 4001), 0, api.ErrLong}, {"fn main() { " + strings.Repeat("1;", 2000) + "}", 0, api.ErrLong},
		{"fn main() { " + strings.Repeat("(", 30), 12 + 23, api.ErrDeep}, {"fn main() { 1; " + strings.Repeat("-", 24) + "1; }", 15 + 23, api.ErrDeep},
		{strings.Repeat("fn f() { }", 17), 0, api.ErrMany}, {"fn main(a,b,c,d,e,f,g,h,i) { }", 0, api.ErrMany},
		{"", 0, api.ErrName}, {"fn f() { }", 0, api.ErrName}, {"fn main() { x; }", 0, api.ErrName}, {"fn main() { x = 1; }", 0, api.ErrName}, {"fn main() { f(); }", 0, api.ErrName}, {"fn main() { break; }", 0, api.ErrName}, {"fn main() { let x = 1; let x = 2; }", 0, api.ErrName}, {"fn main() { } fn main() { }", 0, api.ErrName}, {"fn main() { } fn len() { }", 0, api.ErrName}, {"fn f(a, a) { } fn main() { }", 0, api.ErrName},
		{"fn main() { main(1); }", 0, api.ErrArity}, {"fn main() { len(); }", 0, api.ErrArity}, {"fn main(a) { }", 0, api.ErrArity}, {"fn main() { push([]); }", 0, api.ErrArity},
		{"fn main() { " + lets(65) + " }", 0, api.ErrMany},
	} {
		expectSourceError(t, c.s, c.at, c.e)
		if l, _, e := parse.Program(c.s); e == api.OK {
			expectError(t, l, c.e)
		}
	}
}

// lets are n lets, each in a block of its own.
func lets(n int) string { return strings.Repeat("if 1 { let x = 1; }", n) }

// Which error comes first: those of parse, of scope (of all functions), then those of the code.
func TestFirstError(t *testing.T) {
	long, high, wide, great := strings.Repeat("1;", 500), "1 + "+ones(64)+";", ones(65)+";", `"`+strings.Repeat("x", 1000)+`";`
	for _, big := range []string{long, high, wide, great} {
		expectSourceError(t, "fn main() { "+big+" }", 0, api.ErrBig)
		expectSourceError(t, "fn main() { "+big+" } fn f() { "+big+" }", 0, api.ErrBig)
		for wrong, e := range map[string]api.Errno{"x;": api.ErrName, "break;": api.ErrName, "f(1);": api.ErrArity, "len();": api.ErrArity} {
			for _, s := range []string{"fn main() { WRONG BIG } fn f() { }", "fn main() { BIG WRONG } fn f() { }", "fn main() { BIG } fn f() { WRONG }", "fn f() { WRONG } fn main() { BIG }", "fn f() { BIG } fn main() { } fn g() { WRONG }"} {
				expectSourceError(t, strings.NewReplacer("BIG", big, "WRONG", wrong).Replace(s), 0, e)
			}
		}
		expectSourceError(t, "fn f() { "+big+" }", 0, api.ErrName)
		expectSourceError(t, "fn main(a) { "+big+" }", 0, api.ErrArity)
		expectSourceError(t, "fn main() { "+big+" } fn main() { }", 0, api.ErrName)
		expectSourceError(t, "fn main() { "+lets(65)+big+" }", 0, api.ErrMany)
		expectSourceError(t, "fn main() { "+big+" } fn f() {"+lets(65)+" }", 0, api.ErrMany)
		s := "fn main() { " + big + " 1 }"
		expectSourceError(t, s, len(s)-1, api.ErrSyntax)
		expectSourceError(t, "fn main() { "+big+" } fn f(a,b,c,d,e,f,g,h,i) { }", 0, api.ErrMany)
	}
}

// Trees have no more functions and parameters than sources: what is made Checks. scope's errors come first.
func TestManyFunctions(t *testing.T) {
	functions := func(n int) (l []api.Fun) {
		for i := range n - 1 {
			l = append(l, fun(string(rune('a'+i)), nil))
		}
		return append(l, fun("main", nil))
	}
	params := func(n int) (l []string) {
		for i := range n {
			l = append(l, string(rune('a'+i)))
		}
		return l
	}
	expectTreeBound(t, functions(16), true)
	for _, n := range []int{17, 18, 64, 1000} {
		expectError(t, functions(n), api.ErrMany)
	}
	expectTreeBound(t, []api.Fun{fun("f", params(8)), fun("main", nil)}, true)
	for _, n := range []int{9, 10, 26, 64} {
		expectError(t, []api.Fun{fun("f", params(n)), fun("main", nil)}, api.ErrMany)
		expectError(t, []api.Fun{fun("main", nil, do(call("f", times(n, whole(1))...))), fun("f", params(n))}, api.ErrMany)
	}
	expectError(t, functions(17)[:16], api.ErrName)
	expectError(t, append(functions(17), fun("f1", nil, do(variable("x")))), api.ErrName)
	expectError(t, []api.Fun{fun("f", params(9)), fun("main", nil, do(call("f")))}, api.ErrArity)
	expectError(t, []api.Fun{fun("main", params(9))}, api.ErrArity)
	expectError(t, nil, api.ErrName)
	expectError(t, []api.Fun{}, api.ErrName)
	expectError(t, make([]api.Fun, 1), api.ErrName)
	expectError(t, make([]api.Fun, 2), api.ErrName)
}

// Whatever scope refuses is refused by its error.
func TestErrorsAreThoseOfScope(t *testing.T) {
	for _, s := range []string{"fn main() { x; len(); }", "fn main() { len(); x; }", "fn f() { len(); } fn main() { x; }", "fn f() { x; } fn main() { len(); }", "fn main() { let x = len(); y; }", "fn main() { x = len(); }", "fn main() { len(x); }", "fn main() { len(len(), x); }", "fn f() { len(); } fn f() { }", "fn main(a) { break; }", "fn f(a) { } fn g() { f(); }", "fn main() { " + lets(65) + "x; }", "fn main() { " + lets(65) + "} fn f() { len(); }"} {
		_, _, at, e := scope.Source(s)
		if e == api.OK {
			t.Errorf("%q is none", s)
		}
		expectSourceError(t, s, at, e)
	}
}
