package dead_test

import (
	"math/rand"
	"slices"
	"strconv"
	"strings"
	"testing"

	"ratline/api"
	"ratline/dead"
	"ratline/fold"
	"ratline/hand"
	"ratline/likely"
	"ratline/live"
	"ratline/sim"
)

// Functions of texts, lifted, and lifted and folded.

// lifted is a text as register code; false, if it is too long or too great.
func lifted(t *testing.T, s string) (api.RProg, bool) {
	t.Helper()
	p, e := hand.Lifted(s)
	if e != api.OK && e != api.ErrLong && e != api.ErrBig {
		t.Fatal(s, e)
	}
	return p, e == api.OK
}

func TestSources(t *testing.T) {
	for _, x := range []struct{ text, swept, folded string }{
		{"fn main() { }", "kR", "kR"},
		{"fn main() { return 1 + 2 * 3; }", "kkkbbR", "kR"},
		// what comes back to where it was made stays, as an RMov of a register to itself; fold would have taken it
		{"fn main() { let a = 3; return a; }", "kmR", "kR"},
		// a local is read where it stands, once 4 is where it was made
		{"fn main() { let a = 3; print 4; return a; }", "kmkoR", "kokR"},
		{"fn f(a, b) { let c = a; let d = b; return c + d; } fn main() { }", "bR", "bR"},
		{"fn f(a, b) { let c = a; a = b; b = c; return [a, b]; } fn main() { }", "mmlR", "mmlR"},
		// a local that is never asked for, a value that is popped, an error that stays
		{"fn f(a) { let b = a == 1; let c = !b; a == c; return a; } fn main() { }", "R", "R"},
		{"fn main() { let a = 1 / 0; }", "kkbkR", "kkbkR"},
		{"fn f(a) { let b = [a]; let c = f(a); } fn main() { }", "ltckR", "ltckR"},
		// what stands behind a return is not come to, nor is a side that is known not to be taken
		{"fn f(a) { if a { return 1; } else { return 2; } print 3; } fn main() { }", "B kR kR", "B kR kR"},
		{"fn main() { let a = 0; if a { print 1; } else { print 2; } return a; }", "kmmB koJ koJ R", "J koJ kR"},
		{"fn main() { while 1 { print 1; } return 2; }", "kB kotJ kR", "J kotJ"},
		// a loop: s is counted though nobody asks for it, since a sum may err; c is a copy for nothing
		{"fn f(n) { let s = 0; let c = 0; while n { s = s + n; c = n; n = n - 1; } return n; } fn main() { }", "kmJ B bmkbmtJ R", "kJ B bmkbmtJ R"},
	} {
		p, _ := lifted(t, x.text)
		if got := hand.Words(dead.Run(p.Fns[0])); got != x.swept {
			t.Errorf("%s: %q, want %q\n%s\n%s", x.text, got, x.swept, sim.Text(p.Fns[0]), sim.Text(dead.Run(p.Fns[0])))
		}
		q := hand.Mapped(p, fold.Run)
		if got := hand.Words(dead.Run(q.Fns[0])); got != x.folded {
			t.Errorf("%s, folded: %q, want %q\n%s", x.text, got, x.folded, sim.Text(dead.Run(q.Fns[0])))
		}
		var n counts
		for _, f := range slices.Concat(p.Fns, q.Fns) {
			n.expectRead(t, f)
		}
		expectMeant(t, new(hand.Tried), p)
		expectMeant(t, new(hand.Tried), q)
	}
}

// Promise 15.2: what is left tells the same.

// expectMeant asks that p, with each of its functions passed through each pass, and with all of them, tells what it told, whatever the fuel is.
func expectMeant(t *testing.T, n *hand.Tried, p api.RProg) {
	t.Helper()
	others := hand.Others(p, passes...)
	for _, pass := range []pass{
		func(f api.RFn) api.RFn { return dead.Run(dead.Run(f)) },
		func(f api.RFn) api.RFn { return dead.Run(fold.Run(f)) },
		func(f api.RFn) api.RFn { return fold.Run(dead.Run(f)) },
	} {
		others = append(others, hand.Mapped(p, pass))
	}
	if s := n.Otherwise(p, others...); s != "" {
		t.Fatal(s)
	}
}

func TestTheSameIsToldOfLikelyPrograms(t *testing.T) {
	var n hand.Tried
	r := rand.New(rand.NewSource(161))
	for range 2500 {
		expectMeant(t, &n, likely.Registers(r.Intn, 6))
	}
	if n.Programs < 1800 || n.Runs < 10000 || n.Ends < 400 || n.Errs < 400 || n.Fuel < 7000 {
		t.Error(n)
	}
}

// Programs of copies alone, which put all registers out at last: whatever a copy is told by is seen.
func TestTheSameIsToldOfMoves(t *testing.T) {
	var n hand.Tried
	r := rand.New(rand.NewSource(162))
	for range 1500 {
		regs := 2 + r.Intn(5)
		f := someMoves(r, 1+r.Intn(6), regs)
		var first []api.RIns
		for k := range regs { // each holds something else
			first = append(first, numbered(k))
		}
		f.Params, f.Blocks[0].Ins = 0, slices.Concat(first, code(tick(1)), f.Blocks[0].Ins)
		for k := range f.Blocks {
			if b := &f.Blocks[k]; b.Term.Kind == api.TRet {
				b.Ins = append(b.Ins, list(b.Term.A, hand.Upto(regs)...))
			}
		}
		expectMeant(t, &n, api.RProg{Fns: []api.RFn{f}})
	}
	if n.Programs < 600 || n.Runs < 5000 || n.Ends < 200 || n.Fuel < 4000 {
		t.Error(n)
	}
}

func numbered(r int) api.RIns {
	i := number(r)
	i.K.N = int64(100 + r)
	return i
}

func TestTheSameIsToldOfSources(t *testing.T) {
	var n hand.Tried
	var seen counts
	for seed := range 300 {
		p, ok := lifted(t, likely.Source(rand.New(rand.NewSource(int64(seed))).Intn))
		if !ok {
			continue
		}
		expectMeant(t, &n, p)
		for _, f := range p.Fns {
			if sim.Size(f) < 200 { // the second reading is slow
				seen.expectRead(t, f)
				seen.expectRead(t, fold.Run(f))
			}
		}
	}
	if n.Programs < 200 || n.Runs < 1000 || n.Ends < 50 || n.Errs < 50 || seen.told < 500 || seen.left < 100 || seen.swept < 5000 || seen.twice < 100 {
		t.Error(n, seen)
	}
}

// The greatest functions that texts make: each local is a copy of the one ahead of it, and only the last is asked for.
func TestGreatSources(t *testing.T) {
	s := "fn f(v0) { "
	for k := range 60 {
		s += "let v" + strconv.Itoa(k+1) + " = v" + strconv.Itoa(k) + "; "
	}
	row, _ := lifted(t, s+"return v60; } fn main() { }")
	if g := dead.Run(row.Fns[0]); hand.Words(g) != "R" || g.Blocks[0].Term != ret(0) {
		t.Error(sim.Text(g))
	}
	p, ok := lifted(t, s+strings.Repeat("if v1 { v2 = v3; } ", 60)+"while v4 { v5 = v6; v6 = v7; } return v60; } fn main() { }")
	if !ok {
		t.Fatal("too great")
	}
	g := dead.Run(p.Fns[0])
	if len(g.Blocks) != len(p.Fns[0].Blocks) || len(g.Blocks) < 120 {
		t.Error(len(g.Blocks))
	}
	for n, b := range g.Blocks[1 : len(g.Blocks)-1] { // v2, v5 and v6 are not needed: what asks for v1 and v4 is left
		if slices.ContainsFunc(b.Ins, func(i api.RIns) bool { return i.Op != api.RTick && !slices.Contains(live.Ends(b.Term), i.D) }) {
			t.Error(n, b)
		}
	}
	expectClean(t, g)
}
