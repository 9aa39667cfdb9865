package scope_test

import (
	"reflect"
	"strconv"
	"strings"
	"testing"

	"ratline/api"
	"ratline/ops"
	"ratline/scope"
)

// Promise 6.1: what is built in.

func TestBuiltin(t *testing.T) {
	type answer struct {
		op, args int
		ok       bool
	}
	for name, want := range map[string]answer{
		"push": {13, 2, true}, "cx": {14, 2, true}, "len": {17, 1, true}, "re": {18, 1, true}, "im": {19, 1, true}, "conj": {20, 1, true},
		"": {}, "+": {}, "-": {}, "!": {}, "[]": {}, "==": {}, "&&": {}, "Push": {}, "LEN": {}, "len ": {}, " len": {}, "le": {}, "lens": {}, "cx\x00": {}, "main": {}, "print": {}, "nil": {}, "get": {}, "neg": {}, "not": {}, "abs": {}, "x": {}, "é": {}, "\xff": {}, strings.Repeat("len", 1000): {},
	} {
		if op, args, ok := scope.Builtin(name); (answer{op, args, ok}) != want {
			t.Errorf("Builtin(%.20q): %d, %d, %v", name, op, args, ok)
		}
	}
	names := 0
	for op := -5; op < 30; op++ {
		if got, args, ok := scope.Builtin(ops.Name(op)); ok {
			names++
			if got != op || args != ops.Arity(op) {
				t.Error(op, got, args)
			}
		}
	}
	if names != 6 {
		t.Error(names)
	}
}

// Promises 6.1 and 6.2: ordinary programs. The numbers are written by hand.

func TestLocals(t *testing.T) {
	for s, want := range map[string]scope.Fun{
		"":                             {},
		"1;":                           {},
		"let x = 1;":                   {Locals: 1, Slots: []int{0}},
		"let x = 1; x;":                {Locals: 1, Slots: []int{0, 0}},
		"let x = 1; let y = x":         {Locals: 2, Slots: []int{0, 0, 1}},
		"let x = 1; let y = 2; x = y;": {Locals: 2, Slots: []int{0, 1, 0, 1}},
		"let x = 1; x = x + x;":        {Locals: 1, Slots: []int{0, 0, 0, 0}},
		"let x = 1; let y = 2; print y; print x; return x + y":                                             {Locals: 2, Slots: []int{0, 1, 1, 0, 0, 1}},
		"let x = 1; if x { let y = x; y; } x;":                                                             {Locals: 2, Slots: []int{0, 0, 0, 1, 1, 0}},
		"if 1 { let x = 1; x; } let x = 2; x;":                                                             {Locals: 2, Slots: []int{0, 0, 1, 1}},
		"if 1 { let x = 1; x; } else { let x = 2; x; }":                                                    {Locals: 2, Slots: []int{0, 0, 1, 1}},
		"let a = 1; if a { } else if a { let b = a; } else { let b = a; let c = b; } let b = a; b;":        {Locals: 5, Slots: []int{0, 0, 0, 0, 1, 0, 2, 2, 3, 0, 4, 4}},
		"let x = 3; while x { let y = x; if y { let z = y; x = z; continue; } break; } let z = x; let y=z": {Locals: 5, Slots: []int{0, 0, 0, 1, 1, 1, 2, 0, 2, 0, 3, 3, 4}},
		"while 1 { while 2 { let x = 1; } let x = 2; x; } let x = 3; x;":                                   {Locals: 3, Slots: []int{0, 1, 1, 2, 2}},
		"if 1 { if 2 { if 3 { let x = 1; } let x = 2; } let x = 3; } let x = 4; x;":                        {Locals: 4, Slots: []int{0, 1, 2, 3, 3}},
		"let a = 1; let b = 2; let c = 3; a && b || c; [c, b, a]; - a[b][c]; !(a == b) ;":                  {Locals: 3, Slots: []int{0, 1, 2, 0, 1, 2, 2, 1, 0, 0, 1, 2, 0, 1}},
		"let len = 1; len = len(\"a\") + len;":                                                             {Locals: 1, Slots: []int{0, 0, 0}, Calls: []int{1017}},
		"let main = main(); main = main;":                                                                  {Locals: 1, Slots: []int{0, 0, 0}, Calls: []int{0}},
		"while 1 { break; continue; if 2 { break; } else { continue; } while 3 { break; } break; }":        {},
		"while 1 { if 1 { while 1 { } continue; } }":                                                       {},
		"return; let x = 1; x;":                                                                            {Locals: 1, Slots: []int{0, 0}},
		"while 1 { break; let x = 1; x; }":                                                                 {Locals: 1, Slots: []int{0, 0}},
		"nil; 2i; \"x\"; [];":                                                                              {},
	} {
		s = strings.TrimSuffix(s, ";")
		if s != "" && !strings.HasSuffix(s, "}") {
			s += ";"
		}
		expectSource(t, "fn main() { "+s+" }", want)
	}
}

func TestParameters(t *testing.T) {
	for s, want := range map[string]scope.Fun{
		"fn f(a) { }":                                                 {Locals: 1},
		"fn f(a, b, c) { c; b; a; }":                                  {Locals: 3, Slots: []int{2, 1, 0}},
		"fn f(a, b) { let c = b; c = a; }":                            {Locals: 3, Slots: []int{1, 2, 2, 0}},
		"fn f(a) { while a { if a { a=1; }}}":                         {Locals: 1, Slots: []int{0, 0, 0}},
		"fn f(f) { f(f(f)); f = f; }":                                 {Locals: 1, Slots: []int{0, 0, 0}, Calls: []int{0, 0}},
		"fn f(main) { main; main(); }":                                {Locals: 1, Slots: []int{0}, Calls: []int{1}},
		"fn f(len) { len(len); }":                                     {Locals: 1, Slots: []int{0}, Calls: []int{1017}},
		"fn f(a,b,c,d,e,g,h,i) { a=i; let j=h; f(a,b,c,d,e,g,h,j); }": {Locals: 9, Slots: []int{0, 7, 6, 8, 0, 1, 2, 3, 4, 5, 6, 8}, Calls: []int{0}},
	} {
		expectSource(t, s+" fn main() { }", want, scope.Fun{})
	}
}

func TestCalls(t *testing.T) {
	expectSource(t, "fn a() { b(1); c(1, 2); main(); a(); } fn b(x) { a(); b(x); } fn main() { c(a(), b(a())); } fn c(x, y) { }",
		scope.Fun{Calls: []int{1, 3, 2, 0}}, scope.Fun{Locals: 1, Slots: []int{0}, Calls: []int{0, 1}}, scope.Fun{Calls: []int{0, 0, 1, 3}}, scope.Fun{Locals: 2})
	expectSource(t, "fn main() { f(1); } fn f(a) { f(a); main(); }", scope.Fun{Calls: []int{1}}, scope.Fun{Locals: 1, Slots: []int{0}, Calls: []int{1, 0}})
	for s, want := range map[string][]int{
		"push([], 1)": {1013}, "cx(1, 2)": {1014}, "len([])": {1017}, "re(1)": {1018}, "im(1)": {1019}, "conj(1)": {1020},
		"f(1)": {0}, "main()": {1}, "f(f(1))": {0, 0}, "f(main())": {1, 0}, "main() + f(1)": {1, 0}, "f(1) + main()": {0, 1}, "[main(), f(2), main()]": {1, 0, 1},
		"push(f(1), len(main()))": {0, 1, 1017, 1013}, "cx(re(f(1)), im(main()))": {0, 1018, 1, 1019, 1014}, "len(f(1))[main()]": {0, 1017, 1}, "-f(!main())": {1, 0}, "main() && f(1) || conj(1)": {1, 0, 1020},
	} {
		for form, rest := range map[string][]int{"E;": nil, "print E;": nil, "return E;": nil, "let x = E;": nil, "if E { }": nil, "while E { }": nil, "E; main();": {1}, "if 1 { E; } else { main(); }": {1}, "while 1 { if 1 { } else if E { } } main();": {1}} {
			text := strings.ReplaceAll(form, "E", s)
			l, f, at, e := scope.Source("fn f(a) { } fn main() { " + text + " }")
			if len(l) != 2 || len(f) != 2 || !reflect.DeepEqual(f[1].Calls, append(append([]int(nil), want...), rest...)) || at != 0 || e != api.OK {
				t.Errorf("%q: %s, %d, %d", text, short(f), at, e)
			}
		}
	}
}

// Each has its locals, slots and calls by itself, in the order of the functions.
func TestManyFunctions(t *testing.T) {
	var s strings.Builder
	var want []scope.Fun
	for i := range 15 {
		s.WriteString("fn f" + strconv.Itoa(i) + "(a) { " + strings.Repeat("f"+strconv.Itoa((i+4)%15)+"(a);", i) + " let b = a; }")
		f := scope.Fun{Locals: 2}
		for range i {
			f.Slots, f.Calls = append(f.Slots, 0), append(f.Calls, (i+4)%15)
		}
		f.Slots = append(f.Slots, 0, 1)
		want = append(want, f)
	}
	expectSource(t, s.String()+"fn main() { f14(1); }", append(want, scope.Fun{Calls: []int{14}})...)
}

// Promise 6.1, wrong inputs and edges: names.

func TestWrongNames(t *testing.T) {
	for _, s := range []string{
		"x;", "x = 1;", "print x;", "return x;", "let x = x;", "let x = 1 + [x];", "if x { }", "while x { }", "1 + x;", "x + 1;", "1 && x;", "1 || x;", "-x;", "!x;", "[x];", "[1, x];", "1[x];", "x[1];", "len(x);", "push(1, x);", "main(x);",
		"let x = 1; let x = 2;", "let x = 1; if 1 { let x = 2; }", "let x = 1; while 1 { let x = 2; }", "let x = 1; if 1 { } else { let x = 2; }", "let x = 1; while 1 { while 1 { if 1 { } else if 1 { let x = 2; } } }", "if 1 { let x = 1; let x = 2; }",
		"x; let x = 1;", "x = 1; let x = 1;", "if 1 { let x = 1; } x;", "if 1 { let x = 1; } x = 1;", "while 1 { let x = 1; } x;", "if 1 { let x = 1; } else { x; }", "if 1 { let x = 1; } else { x = 1; }", "if 1 { let x = 1; } else if x { }", "if 1 { } else { let x = 1; } x;", "if 1 { } else if 1 { let x = 1; } else { x; }", "while 1 { if 1 { let x = 1; } x; }", "while 1 { x; let x = 1; }",
		"let X = 1; x;", "let x1 = 1; x;", "let x = 1; y = x;", "let y = 1; y = x;", "let x = 1; let y = [x, [y]];",
		"x();", "f();", "Len(1);", "print(f(1));", "let f = 1; f();", "f(1, 2, 3);", "nothing(main());", "let y = len; ", "main;", "len;", "push = 1;", "main = 1;",
		"break;", "continue;", "if 1 { break; }", "if 1 { } else { continue; }", "while 1 { } break;", "while 1 { } continue;", "while 1 { break; } if 1 { while 1 { } break; }", "while 1 { while 1 { } continue; } continue;",
	} {
		expectError(t, "fn main() { "+s+" }", api.ErrName)
		expectError(t, "fn main() { let z = 1; while z { "+s+" } "+s+" }", api.ErrName)
		expectError(t, "fn g(a) { "+s+" } fn main() { g(1); }", api.ErrName)
		expectError(t, "fn main() { } fn g(a) { "+s+" }", api.ErrName)
	}
	for _, s := range []string{
		"fn f(a, a) { }", "fn f(a, b, a) { }", "fn f(a, b, c, d, e, f, g, a) { }", "fn f(a, b, b) { }", "fn f(a) { let a = 1; }", "fn f(a) { if 1 { let a = 1; } }", "fn f(a, b) { while 1 { if 1 { } else { let b = 1; } } }", "fn f(a) { } fn g() { a; }", "fn f() { let a = 1; } fn g() { a = 1; }", "fn f(a) { while a { } } fn g() { break; }", "fn f(a) { while a { break; } } fn g() { continue; }",
		"fn f() { } fn f() { }", "fn f() { } fn g() { } fn f(a) { }", "fn push() { }", "fn cx(a, b) { }", "fn len(a) { }", "fn re() { }", "fn im() { }", "fn conj() { }", "fn g() { } fn len() { }",
	} {
		expectError(t, s+" fn main() { }", api.ErrName)
		expectError(t, "fn main() { } "+s, api.ErrName)
	}
	expectError(t, "fn main() { } fn main() { }", api.ErrName)
	expectError(t, "fn main() { } fn f() { } fn main(a) { }", api.ErrName)
}

// Names and functions are apart; what differs is told apart.
func TestNamesThatAreNoFault(t *testing.T) {
	for _, s := range []string{
		"let x = 1; let X = 2; let x1 = 3; let _x = 4; let x_ = 5;", "let push = 1; let cx = 2; let re = 3; let im = 4; let conj = 5; push; conj;", "let f = 1; f; f();", "if 1 { let x = 1; } if 1 { let x = 1; } while 1 { let x = 1; }", "if 1 { let x = 1; } else if 1 { let x = 1; } else if 1 { let x = 1; } else { let x = 1; }", "if 1 { if 1 { let x = 1; } let x = 1; } let x = 1;", "while 1 { break; continue; }", "while 1 { if 1 { if 1 { break; } else { continue; } } }",
	} {
		if _, _, at, e := scope.Source("fn f() { } fn main() { " + s + " }"); at != 0 || e != api.OK {
			t.Errorf("%q: %d, %d", s, at, e)
		}
	}
	for _, s := range []string{"fn f(f) { }", "fn f(main) { }", "fn f(len) { let push = 1; }", "fn f(a) { } fn g(a) { }", "fn f(a) { let b = 1; } fn g(b) { let a = 1; }", "fn f(main) { } fn Main() { }", "fn print1() { } fn Len() { } fn len1() { } fn pus() { }"} {
		if _, _, at, e := scope.Source(s + " fn main() { }"); at != 0 || e != api.OK {
			t.Errorf("%q: %d, %d", s, at, e)
		}
	}
}

func TestArity(t *testing.T) {
	for name, args := range map[string]int{"push": 2, "cx": 2, "len": 1, "re": 1, "im": 1, "conj": 1, "f0": 0, "f1": 1, "f2": 2, "f8": 8, "main": 0} {
		const funs = "fn f0() { } fn f1(a) { } fn f2(a, b) { } fn f8(a, b, c, d, e, f, g, h) { } "
		for n := range 11 {
			s := name + "(" + strings.TrimSuffix(strings.Repeat("1,", n), ",") + ")"
			want := api.OK
			if n != args {
				want = api.ErrArity
			}
			for _, form := range []string{"E;", "let x = E;", "let y = 1; y = E;", "while 1 { return -E; }", "len([1, E]);", "if 1 { } else if E { }"} {
				text := strings.ReplaceAll(form, "E", s)
				if _, _, at, e := scope.Source(funs + "fn main() { " + text + " }"); at != 0 || e != want {
					t.Errorf("%q: %d, %d, want %d", text, at, e, want)
				}
			}
		}
	}
}

func TestNoMain(t *testing.T) {
	expectCheckError(t, api.ErrName)
	expectCheckError(t, api.ErrName, []api.Fun{}...)
	for s, want := range map[string]api.Errno{
		"": api.ErrName, "# nothing\n": api.ErrName, "fn f() { }": api.ErrName, "fn Main() { } fn main1() { } fn mai() { }": api.ErrName, "fn f(main) { let x = main; }": api.ErrName, "fn f() { let main = 1; }": api.ErrName,
		"fn main(a) { }": api.ErrArity, "fn main(a, b, c, d, e, f, g, h) { }": api.ErrArity, "fn f() { } fn main(a) { a; }": api.ErrArity, "fn main(a) { } fn f() { main(1); }": api.ErrArity,
	} {
		expectError(t, s, want)
	}
	expectSource(t, "fn main() { }", scope.Fun{})
	expectSource(t, "fn f() { main(); } fn main() { f(); }", scope.Fun{Calls: []int{1}}, scope.Fun{Calls: []int{0}})
}

// Promise 6.1: which error comes first.

func TestFirstError(t *testing.T) {
	for s, want := range map[string]api.Errno{
		// The functions' names ahead of all bodies.
		"fn main() { len(); } fn f() { } fn f() { }": api.ErrName, "fn main() { len(); } fn len() { }": api.ErrName, "fn f() { len(); } fn f() { } fn main(a) { }": api.ErrName, "fn main(a) { } fn main(b) { }": api.ErrName,
		// Function by function: parameters, the body, how many locals.
		"fn f(a, a) { len(); } fn main() { }": api.ErrName, "fn f() { len(); } fn g(a, a) { } fn main() { }": api.ErrArity, "fn f() { len(); } fn main() { x; }": api.ErrArity, "fn f() { x; } fn main() { len(); }": api.ErrName, "fn main() { len(); } fn g() { x; }": api.ErrArity, "fn main() { x; } fn g() { len(); }": api.ErrName,
		// Through the body as it stands.
		"fn main() { len(); x; }": api.ErrArity, "fn main() { x; len(); }": api.ErrName, "fn main() { len(); break; }": api.ErrArity, "fn main() { break; len(); }": api.ErrName, "fn main() { if len() { x; } }": api.ErrArity, "fn main() { if x { len(); } }": api.ErrName, "fn main() { if 1 { x; } else { len(); } }": api.ErrName, "fn main() { if 1 { len(); } else { x; } }": api.ErrArity, "fn main() { while len() { x; } }": api.ErrArity, "fn main() { while x { len(); } }": api.ErrName, "fn main() { while 1 { len(); } break; }": api.ErrArity,
		// A let's expression ahead of its name; a set's name ahead of its expression.
		"fn main() { let x = 1; let x = len(); }": api.ErrArity, "fn main() { x = len(); }": api.ErrName, "fn main() { let x = 1; x = len(); x = y; }": api.ErrArity, "fn f(a) { let a = len(); } fn main() { }": api.ErrArity, "fn f(a) { b = len(); } fn main() { }": api.ErrName,
		// Operands from left to right, ahead of their call.
		"fn main() { len() + x; }": api.ErrArity, "fn main() { x + len(); }": api.ErrName, "fn main() { [len(), x]; }": api.ErrArity, "fn main() { [x, len()]; }": api.ErrName, "fn main() { len() && x; }": api.ErrArity, "fn main() { x || len(); }": api.ErrName, "fn main() { len()[x]; }": api.ErrArity, "fn main() { x[len()]; }": api.ErrName, "fn main() { f(len()); }": api.ErrArity, "fn main() { len(f(), 1); }": api.ErrName, "fn main() { len(x, 1); }": api.ErrName, "fn main() { f(x, len()); }": api.ErrName, "fn main() { f(len(), x); }": api.ErrArity, "fn main() { main(len(x, 1)); }": api.ErrName, "fn main() { main(len()); x; }": api.ErrArity, "fn main() { len(len(), len(x)); }": api.ErrArity, "fn main() { len(len(x), len()); }": api.ErrName,
		// Main at last.
		"fn f() { len(); }": api.ErrArity, "fn main(a) { x; }": api.ErrName, "fn main(a) { } fn f() { x; }": api.ErrName, "fn main(a) { b; len(); }": api.ErrName, "fn main(a, a) { }": api.ErrName, "fn f() { main(); } fn main(a) { x; }": api.ErrArity,
	} {
		expectError(t, s, want)
	}
}

// Promise 6.1, the bound: parameters and lets together.

// lets are n lets, each in a block of its own, so that one is not visible to the other.
func lets(n int) []api.Node {
	var l []api.Node
	for range n {
		l = append(l, choice(whole(1), block(let("x", whole(1)))))
	}
	return l
}

func params(n int) []string {
	var l []string
	for i := range n {
		l = append(l, "p"+strconv.Itoa(i))
	}
	return l
}

func TestManyLocals(t *testing.T) {
	for n := range 67 {
		for k := 0; k+n < 70; k++ {
			want := api.OK
			if n+k > 64 {
				want = api.ErrMany
			}
			main := fun("main", nil)
			f, e := scope.Check([]api.Fun{fun("f", params(n), lets(k)...), main})
			if e != want || e == api.OK && f[0].Locals != n+k || e != api.OK && f != nil {
				t.Errorf("%d parameters, %d lets: %d", n, k, e)
			}
		}
	}
	// One after the other, all visible; through a source.
	for n, want := range map[int]api.Errno{56: api.OK, 57: api.ErrMany} {
		s := "fn f(a,b,c,d,e,f,g,h) {"
		for i := range n {
			s += "let x" + strconv.Itoa(i) + "=a;"
		}
		if _, f, at, e := scope.Source(s + "} fn main() { }"); at != 0 || e != want || e == api.OK && (f[0].Locals != 64 || f[0].Slots[111] != 63) {
			t.Errorf("%d lets: %d, %d", n, at, e)
		}
	}
	// Sets, names read and lets of other functions do not count.
	l := lets(63)
	for range 200 {
		l = append(l, set("a", variable("a")))
	}
	if f, e := scope.Check([]api.Fun{fun("f", []string{"a"}, l...), fun("main", nil, lets(64)...)}); e != api.OK || f[0].Locals != 64 || f[1].Locals != 64 || len(f[0].Slots) != 63+400 {
		t.Error(short(f), e)
	}
}

// Too many locals come behind all else of their function, and ahead of what is behind it.
func TestManyLocalsAmongErrors(t *testing.T) {
	many := lets(65)
	with := func(l ...api.Node) []api.Node { return append(append([]api.Node(nil), many...), l...) }
	main := fun("main", nil)
	x, wrong := do(variable("x")), do(call("len"))
	for i, c := range []struct {
		want api.Errno
		l    []api.Fun
	}{
		{api.ErrMany, inMain(many...)},
		{api.ErrName, inMain(with(x)...)}, {api.ErrArity, inMain(with(wrong)...)}, {api.ErrName, inMain(with(stop())...)}, {api.ErrName, inMain(with(let("y", whole(1)), let("y", whole(1)))...)},
		{api.ErrMany, []api.Fun{fun("f", nil, many...), fun("main", nil, x)}}, {api.ErrMany, []api.Fun{fun("f", nil, many...), fun("main", nil, wrong)}},
		{api.ErrName, []api.Fun{fun("f", nil, x), fun("main", nil, many...)}}, {api.ErrArity, []api.Fun{fun("f", nil, wrong), fun("main", nil, many...)}},
		{api.ErrMany, []api.Fun{fun("f", nil, many...), fun("g", []string{"a", "a"}), main}}, {api.ErrName, []api.Fun{fun("f", []string{"a", "a"}, many...), main}},
		{api.ErrName, []api.Fun{fun("f", nil, many...), fun("f", nil), main}}, {api.ErrName, []api.Fun{fun("f", nil, many...), main, fun("len", nil)}},
		{api.ErrMany, []api.Fun{fun("f", nil, many...)}}, {api.ErrMany, []api.Fun{fun("main", []string{"a"}, many...)}}, {api.ErrMany, []api.Fun{fun("f", params(65)), fun("g", nil)}},
		{api.ErrName, []api.Fun{fun("f", append(params(70), "p3")), main}}, {api.ErrName, []api.Fun{fun("f", params(70), x), main}}, {api.ErrArity, []api.Fun{fun("f", params(70), wrong), main}},
	} {
		if f, e := scope.Check(c.l); f != nil || e != c.want {
			t.Errorf("%d: %s, %d, want %d", i, short(f), e, c.want)
		}
	}
}

// Promise 6.2: parse's errors and their places.

func TestSourceOfNoProgram(t *testing.T) {
	for _, c := range []struct {
		s    string
		at   int
		want api.Errno
	}{
		{"fn main( { }", 9, api.ErrSyntax}, {"fn main() { x = ; }", 16, api.ErrSyntax}, {"fn main() { x = 1 }", 18, api.ErrSyntax}, {"fn main() {", 11, api.ErrSyntax}, {"x", 0, api.ErrSyntax}, {"fn main() { } $", 14, api.ErrSyntax}, {"fn main() { break }", 18, api.ErrSyntax}, {"fn main() { x; } fn", 19, api.ErrSyntax}, {"fn f() { len(); } fn f() { ) }", 27, api.ErrSyntax}, {"fn main() { \"a }", 12, api.ErrSyntax}, {"fn abcdefghijklmnopq() { }", 3, api.ErrSyntax},
		{strings.Repeat(" ", 4001), 0, api.ErrLong}, {"fn main() { " + strings.Repeat("x;", 2000) + "}", 0, api.ErrLong},
		{"fn main() { " + strings.Repeat("(", 30), 12 + 23, api.ErrDeep}, {"fn main() { x; " + strings.Repeat("-", 24) + "x; }", 15 + 23, api.ErrDeep},
		{strings.Repeat("fn f() { }", 17), 0, api.ErrMany}, {"fn main(a,b,c,d,e,f,g,h,i) { x; }", 0, api.ErrMany}, {"fn f(a,a,a,a,a,a,a,a,a) { }", 0, api.ErrMany},
	} {
		if l, f, at, e := scope.Source(c.s); len(l) != 0 || len(f) != 0 || at != c.at || e != c.want {
			t.Errorf("Source(%.60q): %s, %s, %d, %d, want %d, %d", c.s, short(l), short(f), at, e, c.at, c.want)
		}
	}
}
