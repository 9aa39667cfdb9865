package lift_test

import (
	"fmt"
	"math/rand"
	"strings"
	"testing"

	"ratline/api"
	"ratline/gen"
	"ratline/lift"
	"ratline/likely"
	"ratline/ops"
	"ratline/svm"
	"ratline/val"
)

// Promise 11.3: what is lifted tells what the stack code tells. Register code is run here as 11.1 says what it means: a call is a call of Go's, and what ends a run is a panic of an api.Run.

type running struct {
	p    api.RProg
	left int
	told []api.Event
}

func (r *running) event(e api.Event) {
	if r.left <= 0 {
		panic(api.RFuel)
	}
	r.left--
	r.told = append(r.told, e)
}

// made is v, if there was no error.
func made(v api.Value, e api.Run) api.Value {
	if e != api.ROK {
		panic(e)
	}
	return v
}

// of are the values of those registers.
func of(regs []api.Value, l []int) []api.Value {
	var r []api.Value
	for _, n := range l {
		r = append(r, regs[n])
	}
	return r
}

func listMade(l []api.Value) api.Value {
	v := val.List(l)
	if v.Kind != api.VList {
		panic(api.RBig)
	}
	return v
}

func (r *running) do(i api.RIns, regs []api.Value) {
	switch i.Op {
	case 1:
		regs[i.D] = i.K
	case 2:
		regs[i.D] = regs[i.A]
	case 3:
		regs[i.D] = made(ops.Binary(i.N, regs[i.A], regs[i.B]))
	case 4:
		regs[i.D] = made(ops.Unary(i.N, regs[i.A]))
	case 5:
		regs[i.D] = r.call(i.N, of(regs, i.L))
	case 6:
		r.event(api.Event{Kind: 2, V: regs[i.A]})
	case 7:
		r.event(api.Event{Kind: 1, N: i.N})
	case 8:
		regs[i.D] = listMade(of(regs, i.L))
	default:
		panic(fmt.Sprint("no such Op ", i.Op))
	}
}

func (r *running) call(fn int, operands []api.Value) api.Value {
	f := r.p.Fns[fn]
	if len(operands) != f.Params {
		panic(fmt.Sprint(len(operands), " operands of ", f.Params))
	}
	regs := make([]api.Value, f.Regs)
	copy(regs, operands)
	for at := 0; ; {
		b := f.Blocks[at]
		for _, i := range b.Ins {
			r.do(i, regs)
		}
		switch b.Term.Kind {
		case 1:
			at = b.Term.To
		case 2:
			at = b.Term.Else
			if val.Truth(regs[b.Term.A]) {
				at = b.Term.To
			}
		case 3:
			return regs[b.Term.A]
		default:
			panic(fmt.Sprint("no such Kind ", b.Term.Kind))
		}
	}
}

func run(p api.RProg, fuel int) (x api.Trace) {
	r := running{p: p, left: fuel}
	defer func() {
		x.Events = r.told
		switch e := recover().(type) {
		case nil:
		case api.Run:
			x.E = e
		default:
			panic(e)
		}
	}()
	x.V = r.call(p.Main, nil)
	return x
}

// traceText is a trace as a text: each tick as t and its number, each output as it is shown, and behind = the value and how the run ended.
func traceText(x api.Trace) string {
	var s strings.Builder
	for _, e := range x.Events {
		if e.Kind == api.ETick {
			fmt.Fprintf(&s, "t%d ", e.N)
		} else {
			s.WriteString(val.Show(e.V) + " ")
		}
	}
	return s.String() + "= " + val.Show(x.V) + fmt.Sprintf(" %d", x.E)
}

// expectTold asks that p tells the same by both ways, and answers how it ended.
func expectTold(t *testing.T, p api.Prog, fuel int) api.Run {
	t.Helper()
	q, e := lift.Program(p)
	want, wrong := svm.Run(p, fuel)
	if e != wrong {
		t.Fatal(short(p), e, wrong)
	}
	if e != api.OK {
		return -1
	}
	got := run(q, fuel)
	if g, w := traceText(got), traceText(want); g != w {
		t.Fatalf("%s with %d: %s, want %s", short(p), fuel, short(g), short(w))
	}
	return want.E
}

func TestSourcesTellTheSame(t *testing.T) {
	for _, s := range []string{
		"fn main() { }",
		"fn main() { print 1; return [1, \"a\", nil, [], 2i]; }",
		"fn main() { let i = 3; while i { print i; i = i - 1; } return i; }",
		"fn main() { let i = 0; while i < 5 { i = i + 1; if i % 2 { continue; } if i > 3 { break; } print i; } print -i; }",
		"fn main() { let i = 0; while i < 2 { let k = 0; while k < 2 { print [i, k]; k = k + 1; } i = i + 1; } }",
		"fn main() { print 1 && 2; print 0 || nil || \"a\"; print [1 && 0, 1 || 0, !1, 1 + (2 && 3)]; }",
		"fn f(a) { let b = a; if a { let c = f(a - 1); print [a, b, c]; } return b; } fn main() { return f(2); }",
		"fn f(l) { l = push(l, 2); return l; } fn main() { let l = [1]; let m = f(l); print l; print m; }",
		"fn f(a, b, c, d, e, g, h, i) { return [i, h, g, e, d, c, b, a]; } fn main() { return f(1, 2, 3, 4, 5, 6, 7, f(1, 2, 3, 4, 5, 6, 7, 8)); }",
		"fn even(n) { if n == 0 { return 1; } return odd(n - 1); } fn odd(n) { if n == 0 { return 0; } return even(n - 1); } fn main() { print even(3); print even(4); }",
		"fn gcd(a, b) { while b { let r = a % b; a = b; b = r; } return a; } fn main() { return gcd(1071, 462); }",
		"fn fib(n) { if n < 2 { return n; } return fib(n - 1) + fib(n - 2); } fn main() { return fib(7); }",
		"fn hanoi(n, a, b, c) { if n == 0 { return []; } return push(hanoi(n - 1, a, c, b), a + b) + hanoi(n - 1, c, b, a); } fn main() { return hanoi(3, \"a\", \"b\", \"c\"); }",
		"fn main() { print 1; print 1 / 0; print 2; }", "fn main() { print 1 + nil; }", "fn main() { return [1][2]; }", "fn main() { let s = \"a\"; while 1 { s = s + s; } }", "fn main() { let l = []; while 1 { l = [l]; } }",
		"fn main() { main(); }", "fn f() { return g(); } fn g() { return f(); } fn main() { return f() + 1; }",
	} {
		p, _, e := gen.Source(s)
		if e != api.OK {
			t.Fatal(s, e)
		}
		for fuel := -1; fuel < 70; fuel++ {
			expectTold(t, p, fuel)
		}
		expectTold(t, p, 3000)
	}
}

// Any programs of texts are lifted as they are read, and tell the same.
func TestAnySources(t *testing.T) {
	ends := map[api.Run]int{}
	for seed := range 800 {
		p, _, e := gen.Source(likely.Source(rand.New(rand.NewSource(int64(seed))).Intn))
		if e == api.ErrLong || e == api.ErrBig {
			continue
		}
		if e != api.OK {
			t.Fatal(e)
		}
		if expectRead(t, p) != api.OK {
			t.Fatal(short(p))
		}
		ends[expectTold(t, p, 60)]++
		ends[expectTold(t, p, seed%9)]++
	}
	if ends[api.ROK] < 100 || ends[api.RKind] < 100 || ends[api.RFuel] < 100 {
		t.Error(ends)
	}
}

func TestLikelyProgramsTellTheSame(t *testing.T) {
	r := rand.New(rand.NewSource(113))
	ends := map[api.Run]int{}
	for range 6000 {
		p := likelyProgram(r, 30)
		ends[expectTold(t, p, 40)]++
		ends[expectTold(t, p, r.Intn(9))]++
	}
	if ends[api.ROK] < 500 || ends[api.RKind] < 500 || ends[api.RFuel] < 500 {
		t.Error(ends)
	}
}
