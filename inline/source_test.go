package inline_test

import (
	"fmt"
	"math/rand"
	"strings"
	"testing"

	"ratline/api"
	"ratline/dead"
	"ratline/fold"
	"ratline/hand"
	"ratline/inline"
	"ratline/likely"
	"ratline/sim"
	"ratline/thread"
)

// Functions of texts, lifted, and lifted, folded, cleaned and threaded.

func threaded(f api.RFn) api.RFn { return thread.Run(dead.Run(fold.Run(f))) }

// Promise 17.2: what is laid open tells the same.

// expectMeant asks that p with its calls laid open tells what it told, whatever the fuel is, also between the other passes; and that each call that is left may stay.
func expectMeant(t *testing.T, n *hand.Tried, p api.RProg) {
	t.Helper()
	var others []api.RProg
	for _, q := range []api.RProg{p, hand.Mapped(p, threaded)} {
		for _, x := range [][2]int{{12, 3}, {14000, 8}, {40, 1}} {
			r := inline.Run(q, x[0], x[1])
			expectStay(t, q, r, x[0], x[1])
			others = append(others, r, hand.Mapped(r, threaded), inline.Run(r, x[0], x[1]))
		}
	}
	if s := n.Otherwise(p, others...); s != "" {
		t.Fatal(s)
	}
}

const (
	twice = "fn main() { g(1, 2); print g(4, 3); } fn g(a, b) { if a < b { print a; return b; } let c = h(a); return c; } fn h(x) { let y = x; if x { y = -x; } return y; } "
	again = "fn f(n) { if n { return f(n - 1); } return 0; } fn g(a) { return f(a); } fn main() { return g(3); }"
	loops = "fn f(x) { print x; let z = nil; while x < 3 { z = x; x = x + 1; } return z; } fn main() { let i = 0; while i < 3 { print f(i); i = i + 1; } } "
	both  = "fn even(n) { if n == 0 { return 1; } return odd(n - 1); } fn odd(n) { if n == 0 { return 0; } return even(n - 1); } fn one() { return 1; } fn main() { print even(one() + one()); print odd(one()); }"
	errs  = "fn f(l, n) { return l[n]; } fn g(a) { return f([a, a], a); } fn main() { print g(0); print g(1); print g(f([2], 0)); print 7; }"
)

// rows is a text of functions, each of which calls the next one.
func rows(count int) string {
	s := "fn main() { print f0(1); } "
	for n := range count {
		s += fmt.Sprintf("fn f%d(a) { print a; return f%d(a + a); } ", n, n+1)
	}
	return s + fmt.Sprintf("fn f%d(a) { return -a; }", count)
}

func TestSources(t *testing.T) {
	for _, x := range []struct {
		text       string
		size, deep int
		left       string // of each function, behind Run; behind Run of what was threaded
		threaded   string
	}{
		{"fn f(a) { return a; } fn main() { print f(7); }", 12, 3, "[0 0]", "[0 0]"},
		{"fn f(a) { return a; } fn main() { f(f(f(7))); print f(f(8)); }", 2, 1, "[0 0]", "[0 0]"},
		{"fn f(a) { return a; } fn main() { f(f(f(7))); print f(f(8)); }", 1, 1, "[0 5]", "[0 0]"},
		{"fn f(a) { return a; } fn main() { f(f(f(7))); print f(f(8)); }", 0, 1, "[0 5]", "[0 5]"},
		{"fn f() { } fn main() { f(); print f(); return f(); }", 2, 1, "[0 0]", "[0 0]"},
		{"fn main() { main(); }", 99, 8, "[1]", "[1]"},
		{twice, 40, 3, "[0 0 0]", "[0 0 0]"}, {twice, 40, 2, "[0 0 0]", "[0 0 0]"}, {twice, 40, 1, "[2 0 0]", "[2 0 0]"}, {twice, 40, 0, "[2 1 0]", "[2 1 0]"}, {twice, 12, 3, "[2 0 0]", "[0 0 0]"}, {twice, 10, 3, "[2 0 0]", "[0 0 0]"}, {twice, 9, 3, "[2 1 0]", "[0 0 0]"}, {twice, 8, 3, "[2 1 0]", "[2 0 0]"},
		{again, 99, 8, "[1 1 1]", "[1 1 1]"}, {again, 4, 8, "[1 1 1]", "[1 1 1]"},
		{loops, 99, 1, "[0 0]", "[0 0]"}, {loops, 13, 1, "[0 1]", "[0 0]"}, {loops, 12, 1, "[0 1]", "[0 1]"},
		{both, 99, 8, "[1 1 0 2]", "[1 1 0 2]"},
		{errs, 99, 8, "[0 0 0]", "[0 0 0]"}, {errs, 99, 1, "[0 0 3]", "[0 0 3]"}, {errs, 5, 8, "[0 0 3]", "[0 0 3]"},
		{rows(6), 20, 3, "[1 1 1 1 0 0 0 0]", "[1 1 1 1 0 0 0 0]"}, {rows(6), 20, 7, "[0 0 0 0 0 0 0 0]", "[0 0 0 0 0 0 0 0]"}, {rows(12), 20, 8, "[1 1 1 1 1 0 0 0 0 0 0 0 0 0]", "[1 1 1 1 1 0 0 0 0 0 0 0 0 0]"},
	} {
		p, e := hand.Lifted(x.text)
		if e != api.OK {
			t.Fatal(x.text, e)
		}
		for _, q := range []struct {
			p    api.RProg
			want string
		}{{p, x.left}, {hand.Mapped(p, threaded), x.threaded}} {
			r := inline.Run(q.p, x.size, x.deep)
			sound(t, r)
			var l []int
			for _, f := range r.Fns {
				l = append(l, left(f))
			}
			if s := fmt.Sprint(l); s != q.want {
				t.Errorf("%s with %d and %d: %s, want %s\n%s", x.text, x.size, x.deep, s, q.want, short(q.p))
			}
			new(counts).expectRead(t, q.p, x.size, x.deep)
		}
		expectMeant(t, new(hand.Tried), p)
	}
}

func TestTheSameIsToldOfLikelyPrograms(t *testing.T) {
	var n hand.Tried
	r := rand.New(rand.NewSource(177))
	opened := 0
	for k := range 2500 {
		p := likely.Registers(r.Intn, 1+r.Intn(8))
		if k%4 > 0 {
			p = falling(r, p)
			p.Main = 0
			p.Fns[0].Params = 0
		}
		expectMeant(t, &n, p)
		q := inline.Run(p, 14000, 8)
		opened += left(p.Fns[p.Main]) - left(q.Fns[p.Main])
	}
	if n.Programs < 1800 || n.Runs < 7000 || n.Ends < 400 || n.Errs < 400 || n.Fuel < 5000 || opened < 200 {
		t.Error(n, opened)
	}
}

// Small functions that call each other much, with what they have put out ahead of each call and behind it.
func TestTheSameIsToldOfCalls(t *testing.T) {
	var n hand.Tried
	r := rand.New(rand.NewSource(178))
	opened := 0
	for range 600 {
		p := prog(make([]api.RFn, 2+r.Intn(5))...)
		for k := range p.Fns {
			p.Fns[k] = fn(min(k, r.Intn(4)), 4, make([]api.RBlock, 1+r.Intn(4))...)
		}
		for k := range p.Fns {
			someCalls(r, p, k)
		}
		expectMeant(t, &n, p)
		opened += left(p.Fns[0]) - left(inline.Run(p, 14000, 8).Fns[0])
	}
	if n.Programs < 500 || n.Runs < 4000 || n.Ends < 200 || n.Fuel < 2000 || opened < 200 {
		t.Error(n, opened)
	}
}

// someCalls lays code in function k, which calls mostly those behind it.
func someCalls(r *rand.Rand, p api.RProg, k int) {
	f := &p.Fns[k]
	reg := func() int { return r.Intn(f.Regs) }
	for n := range f.Blocks {
		b := &f.Blocks[n]
		b.Ins = append(b.Ins, tick(1+10*k+n))
		for range r.Intn(4) {
			to := k + 1 + r.Intn(len(p.Fns)-k)
			if to == len(p.Fns) {
				b.Ins = append(b.Ins, [][]api.RIns{{out(reg())}, {number(reg(), int64(r.Intn(9)))}, {mov(reg(), reg())}, {un(api.ONot, reg(), reg())}, {list(reg(), reg(), reg())}}[r.Intn(5)]...)
				continue
			}
			i := call(to, reg())
			for range p.Fns[to].Params {
				i.L = append(i.L, reg())
			}
			b.Ins = append(b.Ins, out(reg()), tick(100+k), i, out(reg()))
		}
		to := func() int { return min(n+1+r.Intn(3), len(f.Blocks)-1) }
		b.Term = []api.RTerm{jump(to()), br(reg(), to(), to()), br(reg(), to(), r.Intn(len(f.Blocks))), ret(reg())}[r.Intn(4)]
		if n == len(f.Blocks)-1 {
			b.Term = ret(reg())
		}
	}
}

func TestTheSameIsToldOfSources(t *testing.T) {
	var n hand.Tried
	var seen counts
	for seed := range 300 {
		p, e := hand.Lifted(likely.Source(rand.New(rand.NewSource(int64(seed))).Intn))
		if e != api.OK {
			continue
		}
		expectMeant(t, &n, p)
		if seed%3 == 0 {
			seen.expectRead(t, p, 60, 3)
			seen.expectRead(t, hand.Mapped(p, threaded), 60, 3)
		}
	}
	if n.Programs < 200 || n.Runs < 1000 || n.Ends < 50 || n.Errs < 50 || seen.opened < 500 || seen.within < 50 || seen.left < 500 {
		t.Error(n, seen)
	}
}

// The greatest functions that texts make: all calls for which there is room.
func TestGreatSources(t *testing.T) {
	sum := "fn f(a, b, c, d, e, g, h, i) { return a + b; } fn main() { return " + strings.Repeat("f(1, 2, 3, 4, 5, 6, 7, 8) + ", 60) + "1; }"
	for _, x := range []struct {
		text       string
		left, regs int
	}{
		{sum, 60 - 19, 9 + 19*10},
		{"fn f() { print 1; } fn main() { " + strings.Repeat("f(); ", 300) + "}", 300 - 199, 200},
		// h takes seven registers, with all that is laid open in it: of the last one a part is left
		{"fn f() { } fn g() { f(); f(); } fn h() { g(); g(); } fn main() { " + strings.Repeat("h(); ", 60) + "}", 31 + 2, 1 + 28*7 + 3},
	} {
		p, e := hand.Lifted(x.text)
		if e != api.OK {
			t.Fatal(x.text, e)
		}
		q := inline.Run(p, 14000, 8)
		sound(t, q)
		expectStay(t, p, q, 14000, 8)
		if f := q.Fns[p.Main]; left(f) != x.left || f.Regs != x.regs {
			t.Error(x.text, left(f), f.Regs)
		}
		for _, fuel := range []int{0, 20, 400, 4000} {
			a, _ := sim.Run(p, fuel)
			if b, e := sim.Run(q, fuel); e != api.OK || !hand.Alike(a, b) {
				t.Error(e, fuel, x.text)
			}
		}
	}
}
