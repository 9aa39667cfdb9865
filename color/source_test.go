package color_test

import (
	"fmt"
	"math/rand"
	"testing"

	"ratline/api"
	"ratline/color"
	"ratline/dead"
	"ratline/fold"
	"ratline/hand"
	"ratline/inline"
	"ratline/likely"
	"ratline/sim"
	"ratline/thread"
)

// Functions of texts, lifted, with and without the passes ahead.

func threaded(f api.RFn) api.RFn { return thread.Run(dead.Run(fold.Run(f))) }

// passed is p behind all passes ahead of this layer.
func passed(p api.RProg) api.RProg {
	return hand.Mapped(inline.Run(hand.Mapped(p, threaded), 40, 3), threaded)
}

// lifted is a text as register code; false, if it is too long or too great.
func lifted(t *testing.T, s string) (api.RProg, bool) {
	t.Helper()
	p, e := hand.Lifted(s)
	if e != api.OK && e != api.ErrLong && e != api.ErrBig {
		t.Fatal(s, e)
	}
	return p, e == api.OK
}

func TestSources(t *testing.T) {
	for _, x := range []struct{ text, plain, threaded string }{
		{"fn main() { }", "[{0 1 2}]", "[{0 1 2}]"},
		// a parameter that is not read
		{"fn f(a, b) { return b; } fn main() { }", "[{1 0 1} {2 1 2}]", "[{1 0 1}]"},
		{"fn f(a, b, c) { return a + c; } fn main() { }", "[{0 0 1} {2 0 2} {3 1 4} {4 2 3}]", "[{0 0 1} {2 0 1} {3 1 2}]"},
		// one that is written, and not read ahead of it; behind the passes it is gone
		{"fn f(a, b) { a = 1; return a; } fn main() { }", "[{0 0 3} {2 1 4}]", "[{2 1 2}]"},
		{"fn f(n) { let i = 0; let s = 0; while i < n { s = s + i; i = i + 1; } return s; } fn main() { }", "[{0 0 19} {3 1 21} {1 2 19} {2 4 20} {4 7 16}]", "[{0 0 12} {1 1 12} {2 2 13} {3 4 10} {4 8 9}]"},
		{"fn f(a, b) { while b { let r = a % b; a = b; b = r; } return a; } fn main() { }", "[{0 0 13} {1 0 12} {3 1 14} {4 4 5} {2 6 9}]", "[{0 0 8} {1 0 7} {3 2 3} {2 3 5}]"},
		{"fn f(a, b) { return 7 + (a && b); } fn main() { }", "[{0 0 2} {1 0 4} {2 1 11} {3 2 10}]", "[{0 0 2} {1 0 3} {2 1 9} {3 4 8}]"},
		{"fn f(a) { print a; return f(a + 1); } fn main() { }", "[{0 0 3} {1 1 8} {2 4 5}]", "[{0 0 3} {2 2 3} {1 3 6}]"},
	} {
		p, ok := lifted(t, x.text)
		if !ok {
			t.Fatal(x.text)
		}
		for _, y := range []struct {
			f    api.RFn
			want string
		}{{p.Fns[0], x.plain}, {threaded(p.Fns[0]), x.threaded}} {
			if got := fmt.Sprint(color.Intervals(y.f)); got != y.want {
				t.Errorf("Intervals of %s: %s, want %s\n%s", x.text, got, y.want, sim.Text(y.f))
			}
			new(counts).expectRead(t, y.f)
		}
		new(apart).expectSame(t, p)
	}
}

func TestAnySources(t *testing.T) {
	var c counts
	var a apart
	for seed := range 120 {
		p, ok := lifted(t, likely.Source(rand.New(rand.NewSource(int64(seed))).Intn))
		if !ok {
			continue
		}
		for _, q := range []api.RProg{p, passed(p)} {
			for _, f := range q.Fns {
				if sim.Size(f) < 400 { // the second reading is slow
					c.expectRead(t, f)
				}
			}
			a.expectSame(t, q)
		}
	}
	if c.intervals < 4000 || c.params < 800 || c.slots < 8000 || a.Programs < 200 || a.shared < 3000 || a.slots < 5000 {
		t.Error(c, a)
	}
}
