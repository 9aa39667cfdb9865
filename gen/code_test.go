package gen_test

import (
	"strings"
	"testing"

	"ratline/api"
)

// The codes of this file are written by hand, from promise 8.1.

// expectMain asks of each row that main, of that body, has that code.
func expectMain(t *testing.T, rows [][2]string) {
	t.Helper()
	for _, r := range rows {
		expectSource(t, "fn main() { "+r[0]+" }", r[1])
	}
}

func TestExample(t *testing.T) {
	p := expectSource(t, "fn main() { print 1; }", "1 nil | const 0, out, const 1, ret")
	want := []api.SIns{{Op: api.SConst}, {Op: api.SOut}, {Op: api.SConst, A: 1}, {Op: api.SRet}}
	for i, x := range p.Fns[0].Code {
		if x != want[i] {
			t.Error(i, x)
		}
	}
}

func TestStatements(t *testing.T) {
	expectMain(t, [][2]string{
		{"", "nil | const 0, ret"},
		{"let x = 1;", "1 nil | const 0, store 0, const 1, ret"},
		{"let x = 1; x = 2;", "1 2 nil | const 0, store 0, const 1, store 0, const 2, ret"},
		{"let x = 1; let y = x; x = y; y = x;", "1 nil | const 0, store 0, load 0, store 1, load 1, store 0, load 0, store 1, const 1, ret"},
		{"let x = 1; x = x + x;", "1 nil | const 0, store 0, load 0, load 0, bin 1, store 0, const 1, ret"},
		{"1;", "1 nil | const 0, pop, const 1, ret"},
		{"print 1;", "1 nil | const 0, out, const 1, ret"},
		{"return;", "nil | const 0, ret, const 0, ret"},
		{"return nil;", "nil | const 0, ret, const 0, ret"},
		{"return 7;", "7 nil | const 0, ret, const 1, ret"},
		{"return; print 2;", "nil 2 | const 0, ret, const 1, out, const 0, ret"},
		{"return 1; return 2; 3;", "1 2 3 nil | const 0, ret, const 1, ret, const 2, pop, const 3, ret"},
	})
}

func TestChoices(t *testing.T) {
	expectMain(t, [][2]string{
		{"if 1 { }", "1 nil | const 0, brz 2, const 1, ret"},
		{"if 1 { 2; }", "1 2 nil | const 0, brz 4, const 1, pop, const 2, ret"},
		{"if 1 { } else { }", "1 nil | const 0, brz 3, jump 3, const 1, ret"},
		{"if 1 { 2; } else { }", "1 2 nil | const 0, brz 5, const 1, pop, jump 5, const 2, ret"},
		{"if 1 { } else { 3; }", "1 3 nil | const 0, brz 3, jump 5, const 1, pop, const 2, ret"},
		{"if 1 { 2; } else { 3; 4; } 5;", "1 2 3 4 5 nil | const 0, brz 5, const 1, pop, jump 9, const 2, pop, const 3, pop, const 4, pop, const 5, ret"},
		{"if 1 { 2; } else if 3 { 4; }", "1 2 3 4 nil | const 0, brz 5, const 1, pop, jump 9, const 2, brz 9, const 3, pop, const 4, ret"},
		{"if 1 { 2; } else if 3 { 4; } else { 5; }", "1 2 3 4 5 nil | const 0, brz 5, const 1, pop, jump 12, const 2, brz 10, const 3, pop, jump 12, const 4, pop, const 5, ret"},
		{"if 1 { if 2 { 3; } }", "1 2 3 nil | const 0, brz 6, const 1, brz 6, const 2, pop, const 3, ret"},
		{"if 1 { if 2 { 3; } else { 4; } } else { 5; }", "1 2 3 4 5 nil | const 0, brz 10, const 1, brz 7, const 2, pop, jump 9, const 3, pop, jump 12, const 4, pop, const 5, ret"},
		{"if 1 { return; } return 2;", "1 nil 2 | const 0, brz 4, const 1, ret, const 2, ret, const 1, ret"},
		{"if 1 { let x = 2; x; } let x = 3; x;", "1 2 3 nil | const 0, brz 6, const 1, store 0, load 0, pop, const 2, store 1, load 1, pop, const 3, ret"},
		{"if 1 { let x = 2; } else { let x = 3; }", "1 2 3 nil | const 0, brz 5, const 1, store 0, jump 7, const 2, store 1, const 3, ret"},
	})
}

func TestLoops(t *testing.T) {
	expectMain(t, [][2]string{
		{"while 1 { }", "1 nil | const 0, brz 4, tick 1, jump 0, const 1, ret"},
		{"while 1 { 2; }", "1 2 nil | const 0, brz 6, const 1, pop, tick 1, jump 0, const 2, ret"},
		{"while 1 { break; }", "1 nil | const 0, brz 5, jump 5, tick 1, jump 0, const 1, ret"},
		{"while 1 { continue; }", "1 nil | const 0, brz 5, jump 3, tick 1, jump 0, const 1, ret"},
		{"while 1 { break; continue; break; }", "1 nil | const 0, brz 7, jump 7, jump 5, jump 7, tick 1, jump 0, const 1, ret"},
		{"while 1 { continue; break; continue; 2; }", "1 2 nil | const 0, brz 9, jump 7, jump 9, jump 7, const 1, pop, tick 1, jump 0, const 2, ret"},
		{"while 1 { return 2; }", "1 2 nil | const 0, brz 6, const 1, ret, tick 1, jump 0, const 2, ret"},
		{"3; while 1 { } 4;", "3 1 4 nil | const 0, pop, const 1, brz 6, tick 1, jump 2, const 2, pop, const 3, ret"},
		{"while 1 { } while 2 { }", "1 2 nil | const 0, brz 4, tick 1, jump 0, const 1, brz 8, tick 2, jump 4, const 2, ret"},
		{"while 1 { if 2 { break; } else { continue; } 3; }", "1 2 3 nil | const 0, brz 11, const 1, brz 6, jump 11, jump 7, jump 9, const 2, pop, tick 1, jump 0, const 3, ret"},
		// loops within loops, each with its own break and continue
		{"while 1 { while 2 { } }", "1 2 nil | const 0, brz 8, const 1, brz 6, tick 1, jump 2, tick 2, jump 0, const 2, ret"},
		{"while 1 { break; while 2 { break; continue; } continue; }", "1 2 nil | const 0, brz 12, jump 12, const 1, brz 9, jump 9, jump 7, tick 1, jump 3, jump 10, tick 2, jump 0, const 2, ret"},
		{"while 1 { while 2 { break; } break; while 3 { continue; } continue; }", "1 2 3 nil | const 0, brz 16, const 1, brz 7, jump 7, tick 1, jump 2, jump 16, const 2, brz 13, jump 11, tick 2, jump 8, jump 14, tick 3, jump 0, const 3, ret"},
		{"while 1 { while 2 { while 3 { continue; break; } continue; break; } continue; break; }", "1 2 3 nil | const 0, brz 18, const 1, brz 14, const 2, brz 10, jump 8, jump 10, tick 1, jump 4, jump 12, jump 14, tick 2, jump 2, jump 16, jump 18, tick 3, jump 0, const 3, ret"},
	})
}

func TestExpressions(t *testing.T) {
	expectMain(t, [][2]string{
		{"0;", "0 nil | const 0, pop, const 1, ret"},
		{"9223372036854775807;", "9223372036854775807 nil | const 0, pop, const 1, ret"},
		{"2i;", "<0000000000000000,4000000000000000> nil | const 0, pop, const 1, ret"},
		{"0i;", "<0000000000000000,0000000000000000> nil | const 0, pop, const 1, ret"},
		{"9223372036854775807i;", "<0000000000000000,43e0000000000000> nil | const 0, pop, const 1, ret"},
		{`"";`, `"" nil | const 0, pop, const 1, ret`},
		{`"a\"\\\n";`, `"a\"\\\n" nil | const 0, pop, const 1, ret`},
		{"nil;", "nil | const 0, pop, const 0, ret"},
		{"-1;", "1 nil | const 0, un 15, pop, const 1, ret"},
		{"!-1;", "1 nil | const 0, un 15, un 16, pop, const 1, ret"},
		{"1 + 2 * 3;", "1 2 3 nil | const 0, const 1, const 2, bin 3, bin 1, pop, const 3, ret"},
		{"(1 + 2) * 3;", "1 2 3 nil | const 0, const 1, bin 1, const 2, bin 3, pop, const 3, ret"},
		{"1 - 2 - 3;", "1 2 3 nil | const 0, const 1, bin 2, const 2, bin 2, pop, const 3, ret"},
		{"[];", "nil | list 0, pop, const 0, ret"},
		{"[1];", "1 nil | const 0, list 1, pop, const 1, ret"},
		{"[3, [2, 1], []];", "3 2 1 nil | const 0, const 1, const 2, list 2, list 0, list 3, pop, const 3, ret"},
		{"[1, 2][0];", "1 2 0 nil | const 0, const 1, list 2, const 2, bin 12, pop, const 3, ret"},
	})
	for i, sign := range []string{"+", "-", "*", "/", "%", "==", "!=", "<", "<=", ">", ">="} {
		expectMain(t, [][2]string{{"7 " + sign + " 8;", "7 8 nil | const 0, const 1, bin " + strings.Fields("1 2 3 4 5 6 7 8 9 10 11")[i] + ", pop, const 2, ret"}})
	}
}

func TestAndOr(t *testing.T) {
	expectMain(t, [][2]string{
		{"2 && 3;", "2 3 1 0 nil | const 0, brz 6, const 1, brz 6, const 2, jump 7, const 3, pop, const 4, ret"},
		{"2 || 3;", "2 3 0 1 nil | const 0, un 16, brz 8, const 1, un 16, brz 8, const 2, jump 9, const 3, pop, const 4, ret"},
		{"0 && 1;", "0 1 nil | const 0, brz 6, const 1, brz 6, const 1, jump 7, const 0, pop, const 2, ret"},
		{"1 || 0;", "1 0 nil | const 0, un 16, brz 8, const 1, un 16, brz 8, const 1, jump 9, const 0, pop, const 2, ret"},
		// within one another
		{"2 && 3 && 4;", "2 3 1 0 4 nil | const 0, brz 6, const 1, brz 6, const 2, jump 7, const 3, brz 12, const 4, brz 12, const 2, jump 13, const 3, pop, const 5, ret"},
		{"2 && (3 && 4);", "2 3 4 1 0 nil | const 0, brz 12, const 1, brz 8, const 2, brz 8, const 3, jump 9, const 4, brz 12, const 3, jump 13, const 4, pop, const 5, ret"},
		{"2 || 3 && 4;", "2 3 4 1 0 nil | const 0, un 16, brz 14, const 1, brz 9, const 2, brz 9, const 3, jump 10, const 4, un 16, brz 14, const 4, jump 15, const 3, pop, const 5, ret"},
		{"(2 || 3) && 4;", "2 3 0 1 4 nil | const 0, un 16, brz 8, const 1, un 16, brz 8, const 2, jump 9, const 3, brz 14, const 4, brz 14, const 3, jump 15, const 2, pop, const 5, ret"},
		{"2 || 3 || 4;", "2 3 0 1 4 nil | const 0, un 16, brz 8, const 1, un 16, brz 8, const 2, jump 9, const 3, un 16, brz 16, const 4, un 16, brz 16, const 2, jump 17, const 3, pop, const 5, ret"},
		// as an operand, with values below them on the stack, and as a condition
		{"5 + (2 && 3);", "5 2 3 1 0 nil | const 0, const 1, brz 7, const 2, brz 7, const 3, jump 8, const 4, bin 1, pop, const 5, ret"},
		{"[5, 2 || 3, !(2 && 5)];", "5 2 3 0 1 nil | const 0, const 1, un 16, brz 9, const 2, un 16, brz 9, const 3, jump 10, const 4, const 1, brz 16, const 0, brz 16, const 4, jump 17, const 3, un 16, list 3, pop, const 5, ret"},
		{"if 2 && 3 { 4; } else { 5; }", "2 3 1 0 4 5 nil | const 0, brz 6, const 1, brz 6, const 2, jump 7, const 3, brz 11, const 4, pop, jump 13, const 5, pop, const 6, ret"},
		{"while 2 || 3 { break; continue; }", "2 3 0 1 nil | const 0, un 16, brz 8, const 1, un 16, brz 8, const 2, jump 9, const 3, brz 14, jump 14, jump 12, tick 1, jump 0, const 4, ret"},
	})
}

func TestCalls(t *testing.T) {
	expectMain(t, [][2]string{
		{"main();", "nil | tick 1, call 0 0, pop, const 0, ret"},
		{"return main() + main();", "nil | tick 1, call 0 0, tick 2, call 0 0, bin 1, ret, const 0, ret"},
		{"push([], 1);", "1 nil | list 0, const 0, bin 13, pop, const 1, ret"},
		{"cx(1, 2);", "1 2 nil | const 0, const 1, bin 14, pop, const 2, ret"},
		{"len(1);", "1 nil | const 0, un 17, pop, const 1, ret"},
		{"re(1);", "1 nil | const 0, un 18, pop, const 1, ret"},
		{"im(1);", "1 nil | const 0, un 19, pop, const 1, ret"},
		{"conj(1);", "1 nil | const 0, un 20, pop, const 1, ret"},
		{"push(cx(1, 2), len(main()));", "1 2 nil | const 0, const 1, bin 14, tick 1, call 0 0, un 17, bin 13, pop, const 2, ret"},
		{"while main() { main(); }", "nil | tick 1, call 0 0, brz 8, tick 2, call 0 0, pop, tick 3, jump 0, const 0, ret"},
		{"main() && main();", "1 0 nil | tick 1, call 0 0, brz 8, tick 2, call 0 0, brz 8, const 0, jump 9, const 1, pop, const 2, ret"},
		{"if main() { } else { main(); }", "nil | tick 1, call 0 0, brz 4, jump 7, tick 2, call 0 0, pop, const 0, ret"},
	})
}

// Main, where main is not the first function; STicks numbered on from one function to the next; parameters and locals.
func TestFunctions(t *testing.T) {
	p := expectSource(t, "fn f(a, b) { let c = f(b, a); return c; } fn main() { f(1, f(2, 3)); } fn g() { while g() { main(); } }",
		"nil | load 1, load 0, tick 1, call 0 2, store 2, load 2, ret, const 0, ret",
		"1 2 3 nil | const 0, const 1, const 2, tick 2, call 0 2, tick 3, call 0 2, pop, const 3, ret",
		"nil | tick 4, call 2 0, brz 8, tick 5, call 1 0, pop, tick 6, jump 0, const 0, ret")
	if f := p.Fns; p.Main != 1 || f[0].Locals != 3 || f[1].Locals != 0 || f[2].Locals != 0 {
		t.Error(p)
	}
	p = expectSource(t, "fn a() { } fn b(x) { } fn main() { let y = 1; }", "nil | const 0, ret", "nil | const 0, ret", "1 nil | const 0, store 0, const 1, ret")
	if p.Main != 2 || p.Fns[1].Params != 1 || p.Fns[1].Locals != 1 || p.Fns[2].Locals != 1 {
		t.Error(p)
	}
	p = expectSource(t, "fn main() { eight(1, 2, 3, 4, 5, 6, 7, 8); } fn eight(a, b, c, d, e, f, g, h) { return h; }",
		"1 2 3 4 5 6 7 8 nil | const 0, const 1, const 2, const 3, const 4, const 5, const 6, const 7, tick 1, call 1 8, pop, const 8, ret",
		"nil | load 7, ret, const 0, ret")
	if p.Main != 0 || p.Fns[1].Params != 8 || p.Fns[1].Locals != 8 {
		t.Error(p)
	}
}

// Each constant stands once in its function, where it is needed first; each function has its own.
func TestConsts(t *testing.T) {
	expectMain(t, [][2]string{
		{"1; 1; 2; 1; 2;", "1 2 nil | const 0, pop, const 0, pop, const 1, pop, const 0, pop, const 1, pop, const 2, ret"},
		{`"a"; "a"; "b"; "a";`, `"a" "b" nil | const 0, pop, const 0, pop, const 1, pop, const 0, pop, const 2, ret`},
		{"2i; 2i; 3i;", "<0000000000000000,4000000000000000> <0000000000000000,4008000000000000> nil | const 0, pop, const 0, pop, const 1, pop, const 2, ret"},
		{"nil; 1; nil; return;", "nil 1 | const 0, pop, const 1, pop, const 0, pop, const 0, ret, const 0, ret"},
		// numbers of two parts that are equal as float64 tells them
		{"9007199254740992i; 9007199254740993i;", "<0000000000000000,4340000000000000> nil | const 0, pop, const 0, pop, const 1, ret"},
		{"9007199254740992; 9007199254740993;", "9007199254740992 9007199254740993 nil | const 0, pop, const 1, pop, const 2, ret"},
		// alike but of unlike kinds
		{`0; 0i; ""; nil; [];`, `0 <0000000000000000,0000000000000000> "" nil | const 0, pop, const 1, pop, const 2, pop, const 3, pop, list 0, pop, const 3, ret`},
		{`nil; ""; 0i; 0;`, `nil "" <0000000000000000,0000000000000000> 0 | const 0, pop, const 1, pop, const 2, pop, const 3, pop, const 0, ret`},
		{`1; "1"; 1i; "1i"; "nil"; nil; 1; "1"; 1i; "nil";`, `1 "1" <0000000000000000,3ff0000000000000> "1i" "nil" nil | const 0, pop, const 1, pop, const 2, pop, const 3, pop, const 4, pop, const 5, pop, const 0, pop, const 1, pop, const 2, pop, const 4, pop, const 5, ret`},
		// those that && and || need are as others
		{"1 && 0i;", "1 <0000000000000000,0000000000000000> 0 nil | const 0, brz 6, const 1, brz 6, const 0, jump 7, const 2, pop, const 3, ret"},
		{`nil || "";`, `nil "" 0 1 | const 0, un 16, brz 8, const 1, un 16, brz 8, const 2, jump 9, const 3, pop, const 0, ret`},
	})
	expectSource(t, "fn f() { 7; 8; 7; } fn main() { 8; 7; } fn g() { nil; 7; }",
		"7 8 nil | const 0, pop, const 1, pop, const 0, pop, const 2, ret",
		"8 7 nil | const 0, pop, const 1, pop, const 2, ret",
		"nil 7 | const 0, pop, const 1, pop, const 0, ret")
}
