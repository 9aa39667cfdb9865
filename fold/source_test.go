package fold_test

import (
	"math/rand"
	"strings"
	"testing"

	"ratline/api"
	"ratline/fold"
	"ratline/hand"
	"ratline/likely"
	"ratline/sim"
	"ratline/val"
)

// Functions of texts, lifted.

// lifted is a text as register code; false, if it is too long or too great.
func lifted(t *testing.T, s string) (api.RProg, bool) {
	t.Helper()
	p, e := hand.Lifted(s)
	if e != api.OK && e != api.ErrLong && e != api.ErrBig {
		t.Fatal(s, e)
	}
	return p, e == api.OK
}

// leftOps are the ops and lists of f that are not folded, and the ends that are branches, block by block; . of one that has none of them, - of one that is not Reached.
func leftOps(f api.RFn) string {
	g, states := fold.Run(f), fold.Analyse(f)
	var words []string
	for n, b := range g.Blocks {
		word := ""
		for _, i := range b.Ins {
			word += map[int]string{api.RMov: "m", api.RBin: "b", api.RUn: "u", api.RCall: "c", api.RList: "l"}[i.Op]
		}
		if b.Term.Kind == api.TBr {
			word += "?"
		}
		if !states[n].Reached {
			word = "-"
		}
		if word == "" {
			word = "."
		}
		words = append(words, word)
	}
	return strings.Join(words, " ")
}

func TestSources(t *testing.T) {
	for s, want := range map[string]string{
		"fn main() { }": ".",
		"fn main() { return 1 + 2 * 3 - len([1]); }":                                  ".",
		"fn main() { let a = 2; let b = a * a; print [a, b, re(2i)]; return b % a; }": ".",
		// what errs stays, and what is made of it
		"fn main() { let a = 1 / 0; return a + 1; }": "bmmb",
		// of a parameter nothing is known, of what stands beside it all
		"fn f(a) { let b = 3; return a + b * b; } fn main() { }": "mb",
		// a condition that is known leaves one side out
		"fn main() { let a = 0; if a { print 1; } else { print 2; } return a; }": ". - . .",
		"fn main() { let a = 5; if a > 4 && a < 6 { a = 1; } return a; }":        ". . . - . . .",
		// one that is not known leaves both
		"fn f(a) { let b = 1; if a { b = 2; } return b; } fn main() { }": "m? . m",
		"fn f(a) { let b = 2; if a { b = 2; } return b; } fn main() { }": "m? . .",
		// a loop: i is counted, k is known
		"fn main() { let i = 0; let k = 4; while i < k { i = i + k * k; } return k; }": ". mb? mbm .",
		"fn main() { while 0 { print 1; } }":                                           ". - .",
		"fn main() { let a = 1; while a { a = 1; } return 7; }":                        ". . . -",
		// loops within loops
		"fn main() { let i = 0; let k = 1; while i < 3 { let j = 0; while j < 3 { j = j + k; } i = i + k; } return k; }": ". mb? . mb? mbm mbm .",
		// a call is not looked into
		"fn f() { return 1; } fn main() { return 1 + 1; }":               ".",
		"fn f(a) { return f(a) + f(2) * 3; } fn main() { return f(1); }": "mccbb",
	} {
		p, _ := lifted(t, s)
		if got := leftOps(p.Fns[0]); got != want {
			t.Errorf("%s: %q, want %q\n%s", s, got, want, sim.Text(fold.Run(p.Fns[0])))
		}
		var n counts
		for _, f := range p.Fns {
			n.expectRead(t, f)
		}
		expectMeant(t, new(hand.Tried), p)
	}
}

// Promise 14.3: what is folded tells the same.

// expectMeant asks that p, with each of its functions folded, and with all of them, tells what it told, whatever the fuel is: also where what is known is written anew ahead of each block.
func expectMeant(t *testing.T, n *hand.Tried, p api.RProg) {
	t.Helper()
	if sim.Check(p) != api.OK {
		return
	}
	others := append(hand.Others(p, fold.Run), hand.Mapped(p, known), hand.Mapped(hand.Mapped(p, known), fold.Run))
	if s := n.Otherwise(p, others...); s != "" {
		t.Fatal(s)
	}
}

// known is f, in which what is known ahead of a block is written there anew, and a block that is not Reached puts something out.
func known(f api.RFn) api.RFn {
	g := plain(f)
	for n, s := range fold.Analyse(f) {
		l := code(konst(0, val.Text("never")), out(0))
		if s.Reached {
			l = nil
			for r, c := range s.Cells {
				if c.Kind == api.KConst {
					l = append(l, konst(r, c.V))
				}
			}
		}
		g.Blocks[n].Ins = append(l, g.Blocks[n].Ins...)
	}
	return g
}

func TestTheSameIsToldOfLikelyPrograms(t *testing.T) {
	var n hand.Tried
	r := rand.New(rand.NewSource(145))
	for range 4000 {
		expectMeant(t, &n, likely.Registers(r.Intn, 6))
	}
	if n.Programs < 2500 || n.Runs < 12000 || n.Ends < 500 || n.Errs < 500 || n.Fuel < 10000 {
		t.Error(n)
	}
}

func TestTheSameIsToldOfSources(t *testing.T) {
	var n hand.Tried
	var seen counts
	for seed := range 300 {
		p, ok := lifted(t, likely.Source(rand.New(rand.NewSource(int64(seed))).Intn))
		if !ok {
			continue
		}
		expectMeant(t, &n, p)
		for _, f := range p.Fns {
			if sim.Size(f) < 120 { // the second reading is slow
				seen.expectRead(t, f)
			}
		}
	}
	if n.Programs < 200 || n.Runs < 1000 || n.Ends < 50 || n.Errs < 50 || seen.known < 10000 || seen.folded < 3000 || seen.jumps < 100 {
		t.Error(n, seen)
	}
}
