package live_test

import (
	"fmt"
	"math/rand"
	"slices"
	"strings"
	"testing"

	"ratline/api"
	"ratline/hand"
	"ratline/likely"
	"ratline/live"
	"ratline/sim"
	"ratline/val"
)

// Functions of texts, lifted.

// lifted is a text as register code; false, if it is too long or too great.
func lifted(t *testing.T, s string) (api.RProg, bool) {
	t.Helper()
	p, e := hand.Lifted(s)
	if e != api.OK && e != api.ErrLong && e != api.ErrBig {
		t.Fatal(s, e)
	}
	return p, e == api.OK
}

// What is live at first are the parameters that are read; behind an end the locals that are read again, and the values that stand on the stack.
func TestSources(t *testing.T) {
	for s, want := range map[string]string{
		"fn main() { }":                                 "[[]]",
		"fn main() { let a = 1; return a; }":            "[[]]",
		"fn f(a, b) { return b; } fn main() { }":        "[[1]]",
		"fn f(a, b, c) { return a + c; } fn main() { }": "[[0 2]]",
		"fn f(a, b) { a = 1; return a; } fn main() { }": "[[]]",
		// the condition is read by its end, b on one side only
		"fn f(a, b) { if a { return b; } return 3; } fn main() { }": "[[0 1] [1] []]",
		// b is written first on that side
		"fn f(a, b) { if a { b = 1; return b; } return 3; } fn main() { }": "[[0] [] []]",
		// a loop: n and i are asked for again in each round, s is returned
		"fn f(n) { let i = 0; let s = 0; while i < n { s = s + i; i = i + 1; } return s; } fn main() { }": "[[0] [0 1 2] [0 1 2] [2]]",
		// a and b are written by each round, r stays within it
		"fn f(a, b) { while b { let r = a % b; a = b; b = r; } return a; } fn main() { }": "[[0 1] [0 1] [0]]",
		// a value on the stack, register 2 above the locals, is live while the second operand is asked for
		"fn f(a, b) { return 7 + (a && b); } fn main() { }": "[[0 1] [1 2] [2] [2] [2 3]]",
	} {
		p, _ := lifted(t, s)
		if got := fmt.Sprint(live.In(p.Fns[0])); got != want {
			t.Errorf("In of %s: %s, want %s\n%s", s, got, want, sim.Text(p.Fns[0]))
		}
		for _, f := range p.Fns {
			expectRead(t, f)
		}
	}
}

func TestAnySources(t *testing.T) {
	blocks, all := 0, 0
	for seed := range 150 {
		p, ok := lifted(t, likely.Source(rand.New(rand.NewSource(int64(seed))).Intn))
		if !ok {
			continue
		}
		for _, f := range p.Fns {
			if sim.Size(f) > 300 { // the second reading is slow
				continue
			}
			blocks += len(f.Blocks)
			all += expectRead(t, f)
		}
	}
	if blocks < 5000 || all < 50000 {
		t.Error(blocks, all)
	}
}

// What is not live may be anything; what is Pure and writes what is not live behind it may be gone. Both are asked of the machine that runs register code as it stands.

// with is p, in whose function fn that block has other Ins.
func with(p api.RProg, fn, block int, l []api.RIns) api.RProg {
	p.Fns = slices.Clone(p.Fns)
	p.Fns[fn].Blocks = slices.Clone(p.Fns[fn].Blocks)
	p.Fns[fn].Blocks[block].Ins = l
	return p
}

// spoilt writes something odd into a register ahead of a place; false, if an RCall stands there, which has to stand behind its RTick.
func spoilt(p api.RProg, fn int, at place, r int) (api.RProg, bool) {
	l := p.Fns[fn].Blocks[at.block].Ins
	if at.at < len(l) && l[at.at].Op == api.RCall {
		return p, false
	}
	odd := api.RIns{Op: api.RConst, D: r, K: val.Text("odd")}
	return with(p, fn, at.block, slices.Insert(slices.Clone(l), at.at, odd)), true
}

// expectTold asks that a changed program tells what it told.
func expectTold(t *testing.T, p, q api.RProg, want api.Trace, fuel int) {
	t.Helper()
	if x, e := sim.Run(q, fuel); e != api.OK || !hand.Alike(x, want) {
		t.Fatalf("%s told %v, %s tells %v, %d", short(p), short(want), short(q), short(x), e)
	}
}

// meant counts what was tried of programs.
type meant struct{ spoilt, seen, gone int }

// expectMeant tries each register at each place of p, and takes each needless Ins out.
func (n *meant) expectMeant(t *testing.T, p api.RProg, fuel int) {
	t.Helper()
	want, e := sim.Run(p, fuel)
	if e != api.OK {
		return
	}
	for k, f := range p.Fns {
		for at, b := range f.Blocks {
			l := live.At(f, at)
			for i := range l {
				n.expectSpoilt(t, p, k, place{at, i}, l[i], want, fuel)
				if i < len(b.Ins) && live.Pure(b.Ins[i]) && !slices.Contains(l[i+1], live.Def(b.Ins[i])) {
					expectTold(t, p, with(p, k, at, slices.Delete(slices.Clone(b.Ins), i, i+1)), want, fuel)
					n.gone++
				}
			}
		}
	}
}

// expectSpoilt tries each register at a place, ahead of which those of l are live.
func (n *meant) expectSpoilt(t *testing.T, p api.RProg, fn int, at place, l []int, want api.Trace, fuel int) {
	t.Helper()
	for r := range p.Fns[fn].Regs {
		q, ok := spoilt(p, fn, at, r)
		switch {
		case !ok:
		case !slices.Contains(l, r):
			expectTold(t, p, q, want, fuel)
			n.spoilt++
		default:
			if x, _ := sim.Run(q, fuel); !hand.Alike(x, want) {
				n.seen++
			}
		}
	}
}

func TestWhatIsNotLiveMayBeAnything(t *testing.T) {
	var n meant
	r := rand.New(rand.NewSource(134))
	for range 1500 {
		n.expectMeant(t, likely.Registers(r.Intn, 5), 20)
	}
	for seed := range 100 {
		p, ok := lifted(t, likely.Source(rand.New(rand.NewSource(int64(seed))).Intn))
		if ok && !slices.ContainsFunc(p.Fns, func(f api.RFn) bool { return sim.Size(f) > 150 }) {
			n.expectMeant(t, p, 20)
		}
	}
	if n.spoilt < 3000 || n.seen < 300 || n.gone < 100 {
		t.Error(n)
	}
}

// An Ins that is not Pure is not needless, though nobody reads what it writes: it errs, tells an event, or calls.
func TestWhatIsNotPureIsSeen(t *testing.T) {
	back := api.RFn{Regs: 1, Blocks: []api.RBlock{block(ret(0), out(0))}}
	for _, i := range code(bin(api.OAdd, 1, 0, 0), bin(api.ODiv, 1, 0, 0), bin(api.OLt, 1, 0, 0), bin(api.OGet, 1, 0, 0), un(api.ONeg, 1, 0), un(api.OLen, 1, 0), un(api.OConj, 1, 0), out(0), tick(1), call(1, 1)) {
		l := code(i)
		if i.Op == api.RCall {
			l = code(tick(1), i)
		}
		p := api.RProg{Fns: []api.RFn{fn(2, block(ret(0), l...)), back}}
		q := with(p, 0, 0, l[:len(l)-1])
		x, e := sim.Run(p, 9)
		y, wrong := sim.Run(q, 9)
		if e != api.OK || wrong != api.OK || hand.Alike(x, y) || live.Pure(i) {
			t.Error(i, x, e, y, wrong)
		}
	}
}

// The greatest functions that texts make.
func TestGreatSources(t *testing.T) {
	names := []string{}
	for n := range 64 {
		names = append(names, fmt.Sprint("v", n))
	}
	lets := "let " + strings.Join(names, " = 1; let ") + " = 1; "
	p, ok := lifted(t, "fn main() { "+lets+strings.Repeat("if v1 { v0 = v63; } ", 60)+"while v2 { v2 = v3; } print ["+strings.Join(names, ", ")+"]; }")
	if !ok {
		t.Fatal("too great")
	}
	in := live.In(p.Fns[0])
	if len(in) != 123 {
		t.Fatal(len(in))
	}
	for n, l := range in {
		want := upTo(0, 63)
		switch {
		case n == 0:
			want = nil
		case n < 120 && n%2 == 1: // v0 is written
			want = upTo(1, 63)
		case n == 121: // the round of the loop: v2 is written
			want = append(upTo(0, 1), upTo(3, 63)...)
		}
		if !slices.Equal(l, want) {
			t.Error(n, l)
		}
	}
}
