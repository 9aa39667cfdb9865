package svm_test

import (
	"fmt"
	"strings"
	"testing"

	"ratline/api"
	"ratline/gen"
)

// sourceCode is the code of a text.
func sourceCode(t *testing.T, s string) api.Prog {
	t.Helper()
	p, at, e := gen.Source(s)
	if e != api.OK {
		t.Fatal(s, at, e)
	}
	return p
}

// expectSource asks what a run of that text tells.
func expectSource(t *testing.T, s string, fuel int, want string) {
	t.Helper()
	expect(t, sourceCode(t, s), fuel, want)
}

// Promise 9.1: programs, run from their text.

func TestStatements(t *testing.T) {
	for s, want := range map[string]string{
		"":                                "= nil 0",
		"print 1;":                        "1 = nil 0",
		"return;":                         "= nil 0",
		"return 1; print 2;":              "= 1 0",
		"let a = 1; a = a + 1; return a;": "= 2 0",
		"let a = 1; let b = a; a = 5; print b; print a;": "1 5 = nil 0",
		"1; \"x\"; nil; [1, 2];":                         "= nil 0",
		"if 1 { print 1; } else { print 2; }":            "1 = nil 0",
		"if 0 { print 1; } else { print 2; }":            "2 = nil 0",
		"if nil { print 1; } print 3;":                   "3 = nil 0",
		"if 0 { print 1; } else if [] { print 2; } else if \"a\" { print 3; } else { print 4; }": "3 = nil 0",
		"if 1 { let a = 1; print a; } if 1 { let a = 2; print a; } let a = 3; print a;":          "1 2 3 = nil 0",
		"print 1; return [1, \"a\", nil, [], 0i];":                                               "1 = [1, \"a\", nil, [], <0000000000000000,0000000000000000>] 0",
		"print 2i * 2i; print cx(1, 2) + 1; print -1i;":                                          "<c010000000000000,0000000000000000> <4000000000000000,4000000000000000> <0000000000000000,bff0000000000000> = nil 0",
	} {
		expectSource(t, "fn main() { "+s+" }", 9, want)
	}
}

func TestLoops(t *testing.T) {
	for s, want := range map[string]string{
		"while 0 { print 1; }":                                                  "= nil 0",
		"let i = 0; while i < 3 { i = i + 1; }":                                 "t1 t1 t1 = nil 0",
		"let i = 3; while i { print i; i = i - 1; }":                            "3 t1 2 t1 1 t1 = nil 0",
		"while 1 { break; }":                                                    "= nil 0",
		"while 1 { print 1; return 2; }":                                        "1 = 2 0",
		"let i = 0; while i < 2 { i = i + 1; continue; }":                       "t1 t1 = nil 0",
		"let i = 0; while i < 2 { let l = [i]; print l; i = i + 1; } return i;": "[0] t1 [1] t1 = 2 0",
		"let i = 0; while i < 5 { i = i + 1; if i % 2 { continue; } if i > 3 { break; } print i; } print -i;":                         "t1 2 t1 t1 -4 = nil 0",
		"let i = 0; while i < 2 { let k = 0; while k < 2 { print [i, k]; k = k + 1; } i = i + 1; }":                                   "[0, 0] t1 [0, 1] t1 t2 [1, 0] t1 [1, 1] t1 t2 = nil 0",
		"let i = 0; while 1 { while 1 { i = i + 1; if i == 2 { break; } if i == 3 { return i; } } print i; }":                         "t1 2 t2 = 3 0",
		"let s = \"\"; let i = 0; while len(s) < 3 { s = s + \"abc\"[i]; i = i + 1; } return s;":                                      "t1 t1 t1 = \"abc\" 0",
		"let l = []; while len(l) < 3 { l = push(l, l); } return l;":                                                                  "t1 t1 t1 = [[], [[]], [[], [[]]]] 0",
		"let l = [3, 1, 2]; let i = 0; let most = l[0]; while i < len(l) { if l[i] > most { most = l[i]; } i = i + 1; } return most;": "t1 t1 t1 = 3 0",
	} {
		expectSource(t, "fn main() { "+s+" }", 30, want)
	}
}

func TestCalls(t *testing.T) {
	for s, want := range map[string]string{
		"fn f() { } fn main() { return f(); }":                                                                                                                            "t1 = nil 0",
		"fn f(a) { return a; } fn main() { print f(1); f(2); return f(3); }":                                                                                              "t1 1 t2 t3 = 3 0",
		"fn main() { return g(1, 2); } fn g(a, b) { return [b, a]; }":                                                                                                     "t1 = [2, 1] 0",
		"fn f(a) { a = a + 1; return a; } fn main() { let a = 1; print f(a); print a; }":                                                                                  "t1 2 1 = nil 0",
		"fn f(l) { l = push(l, 2); return l; } fn main() { let l = [1]; let m = f(l); print l; print m; }":                                                                "t1 [1] [1, 2] = nil 0",
		"fn f(a) { print a; return a; } fn main() { return f(1) + f(2) * f(3); }":                                                                                         "t1 1 t2 2 t3 3 = 7 0",
		"fn f(a) { print a; return a; } fn main() { return [f(1), f(f(2)), 3][f(1)]; }":                                                                                   "t1 1 t2 2 t3 2 t4 1 = 2 0",
		"fn f(a) { let b = a; if a { let c = f(a - 1); print [a, b, c]; } return b; } fn main() { return f(2); }":                                                         "t2 t1 t1 [1, 1, 0] [2, 2, 1] = 2 0",
		"fn even(n) { if n == 0 { return 1; } return odd(n - 1); } fn odd(n) { if n == 0 { return 0; } return even(n - 1); } fn main() { print even(3); print even(4); }": "t3 t1 t2 t1 0 t4 t1 t2 t1 t2 1 = nil 0",
		"fn f(a, b, c, d, e, g, h, i) { return [i, h, g, e, d, c, b, a]; } fn main() { return f(1, 2, 3, 4, 5, 6, 7, 8); }":                                               "t1 = [8, 7, 6, 5, 4, 3, 2, 1] 0",
		"fn f(n) { while n > 0 { n = n - 1; if n == 1 { return g(n); } } } fn g(n) { return -n; } fn main() { print f(3); print f(0); }":                                  "t3 t2 t1 -1 t4 nil = nil 0",
		"fn f(n) { if n > 2 { return n; } return main(); } fn main() { return 4; }":                                                                                       "= 4 0",
	} {
		expectSource(t, s, 30, want)
	}
	fib := sourceCode(t, "fn fib(n) { if n < 2 { return n; } return fib(n - 1) + fib(n - 2); } fn main() { return fib(20); }")
	told := ""
	var ticks func(n int)
	ticks = func(n int) {
		if n > 1 {
			told += "t1 "
			ticks(n - 1)
			told += "t2 "
			ticks(n - 2)
		}
	}
	ticks(20)
	expect(t, fib, 21891, "t3 "+told+"= 6765 0")
	expect(t, fib, 21890, strings.TrimSuffix("t3 "+told, "t2 ")+"= nil 6")
}

// && and || ask their second operand only if the first one does not decide, and tell 1 or 0.
func TestAndOr(t *testing.T) {
	truths := map[string]bool{"0": false, "1": true, "nil": false, `""`: false, `"a"`: true, "[]": false, "[0]": true, `["", []]`: true}
	number := map[bool]int{true: 1}
	for a, first := range truths {
		for b, second := range truths {
			and, or := "t1 "+a, "t3 "+a
			if first {
				and += " t2 " + b
			} else {
				or += " t4 " + b
			}
			s := fmt.Sprintf("fn say(v) { print v; return v; } fn main() { print say(%s) && say(%s); print say(%s) || say(%s); }", a, b, a, b)
			expectSource(t, s, 20, fmt.Sprintf("%s %d %s %d = nil 0", and, number[first && second], or, number[first || second]))
		}
	}
	expectSource(t, "fn main() { print nil && 1 / 0; print 1 || 1 / 0; print 0 || 0 || [] || 3 && 4; print 1 && 1 / 0; print 5; }", 20, "0 1 1 = nil 2")
	expectSource(t, "fn main() { let i = 0; while i < 5 && !(i == 3 || nil) { i = i + 1; } return i; }", 20, "t1 t1 t1 = 3 0")
}

// What is built in has no ticks.
func TestBuiltIn(t *testing.T) {
	for s, want := range map[string]string{
		"push([1], 2)":                      "= [1, 2] 0",
		"push([], [])":                      "= [[]] 0",
		"cx(3, 0 - 4)":                      "= <4008000000000000,c010000000000000> 0",
		"len(\"abc\")":                      "= 3 0",
		"len([[], [1, 2]])":                 "= 2 0",
		"re(cx(3, 4))":                      "= <4008000000000000,0000000000000000> 0",
		"im(cx(3, 4))":                      "= <4010000000000000,0000000000000000> 0",
		"conj(cx(3, 4))":                    "= <4008000000000000,c010000000000000> 0",
		"conj(5)":                           "= 5 0",
		"len(push(push([], 1), len(\"\")))": "= 2 0",
		"push(1, 2)":                        "= nil 1",
		"cx(1, 2i)":                         "= nil 1",
		"len(5)":                            "= nil 1",
		"re(\"a\")":                         "= nil 1",
		"im(nil)":                           "= nil 1",
		"conj([])":                          "= nil 1",
	} {
		expectSource(t, "fn main() { return "+s+"; }", 0, want)
	}
}

// Main where main is not the first function.
func TestMainInAnyPlace(t *testing.T) {
	l := []string{"fn main() { print 1; return f(); }", "fn f() { print 2; return g(); }", "fn g() { print 3; return 4; }"}
	for _, order := range [][]int{{0, 1, 2}, {0, 2, 1}, {1, 0, 2}, {1, 2, 0}, {2, 0, 1}, {2, 1, 0}} {
		s, at, ticks := "", map[int]int{}, 0
		for _, k := range order {
			s += l[k] + " "
			if k < 2 {
				ticks++
				at[k] = ticks
			}
		}
		expectSource(t, s, 5, fmt.Sprintf("1 t%d 2 t%d 3 = 4 0", at[0], at[1]))
	}
}
