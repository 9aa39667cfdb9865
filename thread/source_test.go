package thread_test

import (
	"math/rand"
	"strconv"
	"strings"
	"testing"

	"ratline/api"
	"ratline/dead"
	"ratline/fold"
	"ratline/hand"
	"ratline/likely"
	"ratline/sim"
	"ratline/thread"
)

// Functions of texts, lifted, and lifted, folded and cleaned.

func cleaned(f api.RFn) api.RFn { return dead.Run(fold.Run(f)) }

func TestSources(t *testing.T) {
	for _, x := range []struct{ text, threaded, cleaned string }{
		{"fn main() { }", "kR", "kR"},
		{"fn f(a) { if a { return 1; } else { return 2; } print 3; } fn main() { }", "mB kR kR", "B kR kR"},
		// what is come to from both sides stays a block
		{"fn f(a) { if a { print 1; } else { print 2; } return a; } fn main() { }", "mB koJ koJ mR", "B koJ koJ R"},
		{"fn f(a, b) { if a { if b { print 1; } else { print 2; } } else { print 3; } return a; } fn main() { }", "mB mB koJ koJ koJ mR", "B B koJ koJ koJ R"},
		// sides that do nothing: none, one, both, within one another
		{"fn f(a) { if a { } return a; } fn main() { }", "mmR", "R"},
		{"fn f(a) { if a { } else { } return a; } fn main() { }", "mmR", "R"},
		{"fn f(a) { if a { } else { print 1; } return a; } fn main() { }", "mB koJ mR", "B koJ R"},
		{"fn f(a, b) { if a { if b { } else { } } else { } return a; } fn main() { }", "mB mJ mR", "R"},
		// loops: a break and a continue lead where the loop does
		{"fn f(n) { while n { n = n - 1; } return n; } fn main() { }", "mB mkbmtJ mR", "B kbmtJ R"},
		{"fn f(n) { while n { if n > 3 { break; } if n > 2 { continue; } n = n - 1; } return n; } fn main() { }", "mB mkbB mkbB mkbmJ tJ mR", "B kbB kbB kbmJ tJ R"},
		{"fn f(n) { while n { break; } return n; } fn main() { }", "mmR", "R"},
		{"fn f(n) { while n { while n { n = n - 1; } } return n; } fn main() { }", "mB mB mkbmtJ tJ mR", "B B kbmtJ tJ R"},
		// a side that is known not to be taken: what is left is one block, but for a loop
		{"fn main() { let a = 0; if a { print 1; } else { print 2; } return a; }", "kmmB koJ koJ mR", "kokR"},
		{"fn main() { if 1 { if 0 { print 1; } else { print 2; } print 3; } return 2; }", "kB kB koJ koJ koJ kR", "kokokR"},
		{"fn main() { while 1 { print 1; } return 2; }", "kB kotJ kR", "J kotJ"},
		{"fn f(a, b) { return a && b; } fn main() { }", "mB mB kJ kJ R", "B B kJ kJ R"},
	} {
		p, e := hand.Lifted(x.text)
		if e != api.OK {
			t.Fatal(x.text, e)
		}
		f := p.Fns[0]
		if got := hand.Words(thread.Run(f)); got != x.threaded {
			t.Errorf("%s: %q, want %q\n%s", x.text, got, x.threaded, sim.Text(thread.Run(f)))
		}
		if got := hand.Words(thread.Run(cleaned(f))); got != x.cleaned {
			t.Errorf("%s, cleaned: %q, want %q\n%s", x.text, got, x.cleaned, sim.Text(thread.Run(cleaned(f))))
		}
		expectMeant(t, new(hand.Tried), p)
		for _, f := range p.Fns {
			new(counts).expectRead(t, f)
			new(counts).expectRead(t, cleaned(f))
		}
	}
}

// Promise 16.2: what is threaded tells the same.

// expectMeant asks that p, with each of its functions passed through each pass, and with all of them, tells what it told, whatever the fuel is; also between the other passes.
func expectMeant(t *testing.T, n *hand.Tried, p api.RProg) {
	t.Helper()
	others := hand.Others(p, passes...)
	for _, pass := range []pass{
		func(f api.RFn) api.RFn { return thread.Merge(thread.Ends(f)) },
		func(f api.RFn) api.RFn { return thread.Run(cleaned(f)) },
		func(f api.RFn) api.RFn { return cleaned(thread.Run(f)) },
		func(f api.RFn) api.RFn { return thread.Run(cleaned(thread.Run(f))) },
	} {
		others = append(others, hand.Mapped(p, pass))
	}
	if s := n.Otherwise(p, others...); s != "" {
		t.Fatal(s)
	}
}

func TestTheSameIsToldOfLikelyPrograms(t *testing.T) {
	var n hand.Tried
	r := rand.New(rand.NewSource(168))
	for range 2500 {
		expectMeant(t, &n, likely.Registers(r.Intn, 1+r.Intn(10)))
	}
	if n.Programs < 1800 || n.Runs < 10000 || n.Ends < 400 || n.Errs < 400 || n.Fuel < 7000 {
		t.Error(n)
	}
}

// Programs in which most blocks only lead on, and whose other blocks put out what tells them apart.
func TestTheSameIsToldOfWays(t *testing.T) {
	var n hand.Tried
	r := rand.New(rand.NewSource(169))
	for range 6000 {
		f := someWays(r, 1+r.Intn(14))
		if r.Intn(2) == 0 {
			f = turnedAbout(r, f)
		}
		f.Params = 0
		for k := range f.Blocks {
			if b := &f.Blocks[k]; len(b.Ins) > 0 {
				b.Ins = append(b.Ins, tick(1+k))
			}
		}
		expectMeant(t, &n, api.RProg{Fns: []api.RFn{f}})
	}
	if n.Programs < 3000 || n.Runs < 10000 || n.Ends < 2000 || n.Fuel < 5000 {
		t.Error(n)
	}
}

func TestTheSameIsToldOfSources(t *testing.T) {
	var n hand.Tried
	var seen counts
	for seed := range 300 {
		p, e := hand.Lifted(likely.Source(rand.New(rand.NewSource(int64(seed))).Intn))
		if e != api.OK {
			continue
		}
		expectMeant(t, &n, p)
		for _, f := range p.Fns {
			seen.expectRead(t, f)
			seen.expectRead(t, cleaned(f))
		}
	}
	if n.Programs < 200 || n.Runs < 1000 || n.Ends < 50 || n.Errs < 50 || seen.turned < 2000 || seen.merged < 1000 || seen.gone < 2000 {
		t.Error(n, seen)
	}
}

// The greatest functions that texts make: sides that do nothing, as many as there may be, are gone, and one block is left; sides that do something are led past what joins them.
func TestGreatSources(t *testing.T) {
	for _, x := range []struct {
		text   string
		blocks int
	}{
		{strings.Repeat("if a { } else { } ", 200), 1},
		{strings.Repeat("if a { if a { } } ", 120), 1},
		{strings.Repeat("if a { ", 20) + strings.Repeat("} else { } ", 20), 1},
		{strings.Repeat("if a { print a; } ", 150), 301},
		{strings.Repeat("if a { ", 20) + "print a; " + strings.Repeat("} ", 20), 22},
		{strings.Repeat("while a { ", 20) + strings.Repeat("} ", 20), 41},
	} {
		p, e := hand.Lifted("fn f(a) { " + x.text + "return a; } fn main() { }")
		if e != api.OK {
			t.Fatal(x.text, e)
		}
		f := cleaned(p.Fns[0])
		g := thread.Run(f)
		if len(f.Blocks) < 22 || len(g.Blocks) != x.blocks {
			t.Error(x.text, len(f.Blocks), strconv.Itoa(len(g.Blocks))+" blocks\n", sim.Text(g))
		}
		new(counts).expectRead(t, f)
	}
}
