package svm_test

import (
	"fmt"
	"math"
	"slices"
	"strings"
	"testing"

	"ratline/api"
	"ratline/svm"
	"ratline/val"
)

// Promise 9.1: what fuel is for.

func TestNoFuel(t *testing.T) {
	for _, fuel := range []int{0, -1, -7, -100000, -100001, math.MinInt, math.MinInt + 1} {
		expectSource(t, "fn main() { print 1; }", fuel, "= nil 6")
		expectSource(t, "fn main() { while 1 { } }", fuel, "= nil 6")
		expectSource(t, "fn f() { print 2; } fn main() { return f(); }", fuel, "= nil 6")
		expectSource(t, "fn main() { while 1 { return 5; } }", fuel, "= 5 0")
		expectSource(t, "fn main() { return [1 + 2, len(\"abc\")]; }", fuel, "= [3, 3] 0")
		expectSource(t, "fn main() { }", fuel, "= nil 0")
		// what errs ahead of the first event errs as ever; what errs behind it is not come to
		expectSource(t, "fn main() { print 1 / 0; }", fuel, "= nil 2")
		expectSource(t, "fn main() { print 1; print 1 / 0; }", fuel, "= nil 6")
		expect(t, program(values(val.Int(1)), tick(1), konst(0), ret()), fuel, "= nil 6")
		expect(t, program(values(val.Int(1)), konst(0), out(), konst(0), ret()), fuel, "= nil 6")
		expect(t, program(values(val.Int(1)), konst(0), ret()), fuel, "= 1 0")
	}
}

// The event for which there is no fuel is not told, whether it is an STick's or an SOut's; just as much as is needed is enough.
func TestFuelOfEachEvent(t *testing.T) {
	const loop = "fn main() { while 1 { print 7; } }"
	for fuel, want := range map[int]string{0: "= nil 6", 1: "7 = nil 6", 2: "7 t1 = nil 6", 3: "7 t1 7 = nil 6", 4: "7 t1 7 t1 = nil 6"} {
		expectSource(t, loop, fuel, want)
	}
	one := values(val.Int(1))
	for fuel, want := range []string{"= nil 6", "t8 = 1 0", "t8 = 1 0"} {
		expect(t, program(one, tick(8), konst(0), ret()), fuel, want)
	}
	for fuel, want := range []string{"= nil 6", "1 = 1 0", "1 = 1 0"} {
		expect(t, program(one, konst(0), konst(0), out(), ret()), fuel, want)
	}
	for fuel, want := range []string{"= nil 6", "t8 = nil 6", "t8 1 = nil 6", "t8 1 1 = nil 6", "t8 1 1 t9 = 1 0", "t8 1 1 t9 = 1 0"} {
		expect(t, program(one, tick(8), konst(0), out(), konst(0), out(), tick(9), konst(0), ret()), fuel, want)
	}
	// a call costs what its STick costs, and comes behind it; what is returned costs nothing
	for fuel, want := range []string{"= nil 6", "t1 = nil 6", "t1 5 = nil 0", "t1 5 = nil 0"} {
		expect(t, program(one, tick(1), call(3, 0), ret()), fuel, want)
	}
	for fuel, want := range []string{"= nil 6", "t1 = [1, 1] 0"} {
		expect(t, program(one, konst(0), tick(1), call(0, 1), ret()), fuel, want)
	}
	// an error ahead of an event for which there is none
	for fuel, want := range []string{"= nil 6", "t1 = nil 1", "t1 = nil 1"} {
		expect(t, program(one, tick(1), konst(0), un(api.OLen), out(), konst(0), ret()), fuel, want)
	}
}

// withLessFuel is what a run tells with that fuel, if with enough of it it tells x.
func withLessFuel(x api.Trace, fuel int) api.Trace {
	if fuel = max(fuel, 0); fuel < len(x.Events) {
		return api.Trace{Events: x.Events[:fuel], E: api.RFuel}
	}
	return x
}

// With less fuel a run tells the beginning of what it tells with more.
func TestEveryFuel(t *testing.T) {
	for _, s := range []string{
		"fn main() { print 1; print 2; return 3; }",
		"fn fib(n) { if n < 2 { return n; } return fib(n - 1) + fib(n - 2); } fn main() { let i = 0; while i < 7 { print fib(i); i = i + 1; } return i; }",
		"fn f(l) { if len(l) > 9 { return l[len(l)]; } print l; return f(push(l, len(l))); } fn main() { print 0; return f([]); }",
		"fn main() { let i = 0; while 1 { i = i + 1; if i % 3 == 0 { continue; } if i > 20 { break; } print [i]; } return \"x\"; }",
	} {
		p := sourceCode(t, s)
		all, _ := svm.Run(p, 1000)
		if all.E == api.RFuel || len(all.Events) < 2 {
			t.Fatal(s, all.E)
		}
		for fuel := -2; fuel < len(all.Events)+3; fuel++ {
			expect(t, p, fuel, tell(withLessFuel(all, fuel)))
		}
	}
}

// Fuel above 100,000 counts as that.
func TestMostFuel(t *testing.T) {
	loop := sourceCode(t, "fn main() { while 1 { } }")
	outs := sourceCode(t, "fn main() { while 1 { print 1; } }")
	for fuel, n := range map[int]int{99999: 99999, 100000: 100000, 100001: 100000, 1<<32 + 5: 100000, math.MaxInt: 100000} {
		expect(t, loop, fuel, strings.Repeat("t1 ", n)+"= nil 6")
		expect(t, outs, fuel, strings.Repeat("1 t1 ", n/2)+strings.Repeat("1 ", n%2)+"= nil 6")
	}
	counts := func(n int) api.Prog {
		return sourceCode(t, fmt.Sprintf("fn main() { let i = 0; while i < %d { i = i + 1; } return i; }", n))
	}
	for _, fuel := range []int{100000, 100001, math.MaxInt} {
		expect(t, counts(99999), fuel, strings.Repeat("t1 ", 99999)+"= 99999 0")
		expect(t, counts(100000), fuel, strings.Repeat("t1 ", 100000)+"= 100000 0")
		expect(t, counts(100001), fuel, strings.Repeat("t1 ", 100000)+"= nil 6")
	}
	expect(t, counts(100000), 99999, strings.Repeat("t1 ", 99999)+"= nil 6")
}

// As many calls may be open as there was fuel.
func TestOpenCalls(t *testing.T) {
	deep := func(n int) api.Prog {
		return sourceCode(t, fmt.Sprintf("fn f(n) { if n == 0 { return 0; } return f(n - 1) + 1; } fn main() { return f(%d); }", n))
	}
	for _, n := range []int{0, 1, 2, 63, 64, 65, 999, 1000, 1001, 30000, 99998, 99999} {
		ticks := "t2 " + strings.Repeat("t1 ", n)
		expect(t, deep(n), n+1, ticks+fmt.Sprintf("= %d 0", n))
		expect(t, deep(n), n, strings.TrimSuffix(ticks, ticks[len(ticks)-3:])+"= nil 6")
	}
	expect(t, deep(100000), math.MaxInt, "t2 "+strings.Repeat("t1 ", 99999)+"= nil 6")
	expectSource(t, "fn main() { return main(); }", math.MaxInt, strings.Repeat("t1 ", 100000)+"= nil 6")
	expectSource(t, "fn a(x) { return b(x, x); } fn b(x, y) { return a([y]); } fn main() { return a(1); }", 1000, "t3 "+strings.Repeat("t1 t2 ", 23)+"t1 t2 t1 = nil 4")
}

// As many calls as there was fuel, each with as many locals and as high a stack as may be.
func TestOpenCallsOfGreatFunctions(t *testing.T) {
	consts := values(val.Int(3), val.Int(1))
	f := api.SFn{Params: 8, Locals: 64, Consts: consts, Code: row(
		code(load(0), brz(3), jump(5), konst(1), ret()),
		slices.Repeat(code(konst(0)), 56), code(load(0), konst(1), bin(api.OSub)), slices.Repeat(code(load(63)), 7),
		code(tick(2), call(1, 8), ret()))}
	for _, n := range []int{0, 1, 99999} {
		main := api.SFn{Consts: values(val.Int(int64(n))), Code: row(slices.Repeat(code(konst(0)), 8), code(tick(1), call(1, 8), ret()))}
		expect(t, api.Prog{Fns: []api.SFn{main, f}}, math.MaxInt, "t1 "+strings.Repeat("t2 ", n)+"= 1 0")
	}
}

// Calls that have come back are not open any more.
func TestManyCallsOneBehindTheOther(t *testing.T) {
	expectSource(t, "fn f(a) { return a + 1; } fn main() { let i = 0; while i < 50000 { i = f(i); } return i; }", 100000, strings.Repeat("t1 t2 ", 50000)+"= 50000 0")
}
