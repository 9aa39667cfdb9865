package sim_test

import (
	"fmt"
	"math/rand"
	"strings"
	"testing"

	"ratline/api"
	"ratline/gen"
	"ratline/lift"
	"ratline/likely"
	"ratline/sim"
	"ratline/svm"
)

// W2: programs of texts, lifted, tell what the machine with a stack tells of them.

// lifted is a text as both codes; false, if it is too long or too great.
func lifted(t *testing.T, s string) (api.Prog, api.RProg, bool) {
	t.Helper()
	p, at, e := gen.Source(s)
	if e == api.ErrLong || e == api.ErrBig {
		return p, api.RProg{}, false
	}
	q, wrong := lift.Program(p)
	if e != api.OK || wrong != api.OK {
		t.Fatal(s, at, e, wrong)
	}
	if e := sim.Check(q); e != api.OK {
		t.Fatal(s, e)
	}
	return p, q, true
}

// expectAlike asks that both codes tell the same, and answers how they ended.
func expectAlike(t *testing.T, p api.Prog, q api.RProg, fuel int) api.Run {
	t.Helper()
	want, _ := svm.Run(p, fuel)
	x, e := sim.Run(q, fuel)
	if e != api.OK || !equal(x, want) || tell(x) != tell(want) {
		t.Fatalf("%s with %d: %s, %d, want %s", short(q), fuel, short(tell(x)), e, short(tell(want)))
	}
	return x.E
}

// What texts tell, told here once more by hand.
func TestSources(t *testing.T) {
	for s, want := range map[string]string{
		"fn main() { }":                    "= nil 0",
		"fn main() { print 1; return 2; }": "1 = 2 0",
		"fn main() { let i = 3; while i { print i; i = i - 1; } return i; }":                                                "3 t1 2 t1 1 t1 = 0 0",
		"fn main() { let i = 0; while i < 5 { i = i + 1; if i % 2 { continue; } if i > 3 { break; } print i; } print -i; }": "t1 2 t1 t1 -4 = nil 0",
		"fn main() { print 1 && 2; print 0 || nil || \"a\"; print [1 && 0, 1 || 0, !1]; }":                                  "1 1 [0, 1, 0] = nil 0",
		"fn f(a) { let b = a; if a { let c = f(a - 1); print [a, b, c]; } return b; } fn main() { return f(2); }":           "t2 t1 t1 [1, 1, 0] [2, 2, 1] = 2 0",
		"fn f(l) { l = push(l, 2); return l; } fn main() { let l = [1]; let m = f(l); print l; print m; }":                  "t1 [1] [1, 2] = nil 0",
		"fn f(a, b, c, d, e, g, h, i) { return [i, h, g, e, d, c, b, a]; } fn main() { return f(1, 2, 3, 4, 5, 6, 7, 8); }": "t1 = [8, 7, 6, 5, 4, 3, 2, 1] 0",
		"fn gcd(a, b) { while b { let r = a % b; a = b; b = r; } return a; } fn main() { return gcd(1071, 462); }":          "t2 t1 t1 t1 = 21 0",
		"fn main() { print 2i * 2i; return cx(1, 2) + 1; }":                                                                 "<c010000000000000,0000000000000000> = <4000000000000000,4000000000000000> 0",
		"fn main() { print 1; print 1 / 0; print 2; }":                                                                      "1 = nil 2",
		"fn main() { print 1 + nil; }":                   "= nil 1",
		"fn main() { return [1][2]; }":                   "= nil 3",
		"fn main() { let l = []; while 1 { l = [l]; } }": strings.Repeat("t1 ", 23) + "= nil 4",
		"fn main() { main(); }":                          strings.Repeat("t1 ", 60) + "= nil 6",
	} {
		p, q, _ := lifted(t, s)
		expect(t, q, 60, want)
		for fuel := -1; fuel < 70; fuel++ {
			expectAlike(t, p, q, fuel)
		}
		expectAlike(t, p, q, 3000)
	}
}

func TestLongSources(t *testing.T) {
	for _, s := range []string{
		"fn fib(n) { if n < 2 { return n; } return fib(n - 1) + fib(n - 2); } fn main() { return fib(20); }",
		"fn hanoi(n, a, b, c) { if n == 0 { return []; } return push(hanoi(n - 1, a, c, b), a + b) + hanoi(n - 1, c, b, a); } fn main() { return hanoi(6, \"a\", \"b\", \"c\"); }",
		"fn f(n) { if n == 0 { return 0; } return f(n - 1) + 1; } fn main() { return f(99999); }",
		"fn f(n) { if n == 0 { return 0; } return f(n - 1) + 1; } fn main() { return f(100000); }",
		"fn even(n) { if n == 0 { return 1; } return odd(n - 1); } fn odd(n) { if n == 0 { return 0; } return even(n - 1); } fn main() { print even(3001); print even(4000); }",
		"fn main() { let s = \"x\"; while len(s) < 999 { s = s + \"y\"; } print s; s = s + \"\"; print len(s); s = s + \"z\"; }",
		"fn main() { let l = [2]; let n = 3; while n < 500 { let i = 0; let is = 1; while i < len(l) && is { if n % l[i] == 0 { is = 0; } i = i + 1; } if is { l = push(l, n); print n; } n = n + 2; } return l; }",
		"fn main() { let z = cx(1, 1); let i = 0; while i < 2000 { z = z * cx(3, 4) / 5 + z * 1i; if re(z) == im(z) { print z; } i = i + 1; } print z; }",
	} {
		p, q, _ := lifted(t, s)
		for _, fuel := range []int{0, 100, 4000, 99999, 100000, 1 << 40} {
			expectAlike(t, p, q, fuel)
		}
	}
}

// The greatest functions that texts make are not too great for Check.
func TestGreatSources(t *testing.T) {
	names := []string{}
	for n := range 64 {
		names = append(names, fmt.Sprint("v", n))
	}
	lets := "let " + strings.Join(names, " = 1; let ") + " = 1; "
	lists := "[" + strings.Repeat("1, ", 62) + "1]"
	for _, s := range []string{
		"fn main() { " + lets + "print [" + strings.Join(names, ", ") + "]; }",
		"fn main() { " + strings.Repeat("print "+lists+"; ", 14) + "}",
		"fn main() { " + strings.Repeat("if 1 { print 1; } ", 150) + "}",
		"fn main() { " + strings.Repeat("while 0 { } ", 150) + "}",
		"fn f(a, b, c, d, e, g, h, i) { return " + strings.Repeat("f(a, b, c, d, e, g, h, i) + ", 80) + "1; } fn main() { return f(1, 2, 3, 4, 5, 6, 7, 8); }",
	} {
		p, q, ok := lifted(t, s)
		if !ok {
			t.Fatal("too great", len(s))
		}
		for _, fuel := range []int{0, 5, 500} {
			expectAlike(t, p, q, fuel)
		}
	}
}

// Any programs of texts.
func TestAnySources(t *testing.T) {
	ends := map[api.Run]int{}
	for seed := range 3000 {
		p, q, ok := lifted(t, likely.Source(rand.New(rand.NewSource(int64(seed))).Intn))
		if !ok {
			continue
		}
		ends[expectAlike(t, p, q, 60)]++
		ends[expectAlike(t, p, q, seed%9)]++
		expectRead(t, q, 30)
	}
	if ends[api.ROK] < 500 || ends[api.RKind] < 500 || ends[api.RFuel] < 500 || ends[api.RIndex] < 10 || ends[api.RZero] < 10 {
		t.Error(ends)
	}
}
