package fold_test

import (
	"math/rand"
	"reflect"
	"slices"
	"testing"

	"ratline/api"
	"ratline/fold"
	"ratline/likely"
	"ratline/ops"
	"ratline/sim"
	"ratline/val"
)

// A second, slow reading of chapter 14: the equations are asked of all blocks at once, from nothing on, until all of them hold.

func readMeet(a, b fold.Cell) fold.Cell {
	if a.Kind == 0 || b.Kind == 0 {
		return map[bool]fold.Cell{true: b, false: a}[a.Kind == 0]
	}
	if a.Kind == 1 && b.Kind == 1 && val.Show(a.V) == val.Show(b.V) {
		return a
	}
	return anything()
}

// readCell is that of a register ahead of an Ins or an end.
func readCell(c []fold.Cell, r int) fold.Cell {
	if r < 0 || r >= len(c) {
		return anything()
	}
	return c[r]
}

// readMade is what an RBin, RUn or RList makes of the cells of what it reads, in the order in which it takes them.
func readMade(i api.RIns, reads []fold.Cell) fold.Cell {
	values := []api.Value{}
	for _, kind := range []int{2, 0} {
		for _, c := range reads {
			if c.Kind == kind {
				return fold.Cell{Kind: kind}
			}
		}
	}
	for _, c := range reads {
		values = append(values, c.V)
	}
	v, e := api.Value{Kind: 4, L: values}, api.ROK
	switch i.Op {
	case 3:
		v, e = ops.Binary(i.N, values[0], values[1])
	case 4:
		v, e = ops.Unary(i.N, values[0])
	}
	if e != api.ROK || !val.Ok(v) {
		return anything()
	}
	return always(v)
}

func readStep(i api.RIns, c []fold.Cell) []fold.Cell {
	l := slices.Clone(c)
	if i.D < 0 || i.D >= len(c) {
		return l
	}
	var listed []fold.Cell
	for _, r := range i.L {
		listed = append(listed, readCell(c, r))
	}
	switch i.Op {
	case 1:
		l[i.D] = always(val.Copy(i.K))
	case 2:
		l[i.D] = readCell(c, i.A)
	case 3:
		l[i.D] = readMade(i, cells(readCell(c, i.A), readCell(c, i.B)))
	case 4:
		l[i.D] = readMade(i, cells(readCell(c, i.A)))
	case 5:
		l[i.D] = anything()
	case 8:
		l[i.D] = readMade(i, listed)
	}
	return l
}

func readBehind(b api.RBlock, c []fold.Cell) []fold.Cell {
	for _, i := range b.Ins {
		c = readStep(i, c)
	}
	return c
}

// readEnd is the end of a block behind whose Ins c is known.
func readEnd(t api.RTerm, c []fold.Cell) api.RTerm {
	a := readCell(c, t.A)
	if t.Kind != 2 || a.Kind != 1 {
		return t
	}
	if val.Truth(a.V) {
		return jump(t.To)
	}
	return jump(t.Else)
}

func leadsTo(t api.RTerm, n int) bool {
	return (t.Kind == 1 || t.Kind == 2) && t.To == n || t.Kind == 2 && t.Else == n
}

func registers(f api.RFn) int { return max(0, min(f.Regs, 200)) }

// readState is what the equations ask of block n, if l is told of all blocks.
func readState(f api.RFn, l []fold.State, n int) fold.State {
	s := fold.State{Cells: make([]fold.Cell, registers(f))}
	if n == 0 {
		s.Reached = true
		for r := range s.Cells {
			s.Cells[r] = always(val.Nil())
			if r < f.Params {
				s.Cells[r] = anything()
			}
		}
	}
	for k, b := range f.Blocks {
		if !l[k].Reached {
			continue
		}
		if c := readBehind(b, l[k].Cells); leadsTo(readEnd(b.Term, c), n) {
			s.Reached = true
			for r := range c {
				s.Cells[r] = readMeet(s.Cells[r], c[r])
			}
		}
	}
	return s
}

// sameStates tells whether two tell the same, values by what they show.
func sameStates(a, b []fold.State) bool {
	return slices.EqualFunc(a, b, func(x, y fold.State) bool {
		return x.Reached == y.Reached && slices.EqualFunc(x.Cells, y.Cells, func(c, d fold.Cell) bool {
			return c.Kind == d.Kind && (c.Kind == 1 || reflect.DeepEqual(c, d)) && val.Show(c.V) == val.Show(d.V)
		})
	})
}

func readSolve(f api.RFn) []fold.State {
	l := make([]fold.State, len(f.Blocks))
	for n := range l {
		l[n].Cells = make([]fold.Cell, registers(f))
	}
	for {
		next := make([]fold.State, len(l))
		for n := range l {
			next[n] = readState(f, l, n)
		}
		if sameStates(next, l) {
			return l
		}
		l = next
	}
}

// readRun lays down what the states tell.
func readRun(f api.RFn, l []fold.State) api.RFn {
	g := plain(f)
	for n := range g.Blocks {
		b, c := &g.Blocks[n], l[n].Cells
		for k, i := range b.Ins {
			b.Ins[k].K = val.Copy(i.K)
			c = readStep(i, c)
			d := readCell(c, i.D)
			if l[n].Reached && slices.Contains([]int{2, 3, 4, 8}, i.Op) && d.Kind == 1 {
				b.Ins[k] = api.RIns{Op: 1, D: i.D, Deep: i.Deep, K: val.Copy(d.V)}
			}
		}
		if l[n].Reached {
			b.Term = readEnd(b.Term, c)
		}
	}
	return g
}

// expectFolded asks that behind Run nothing is left that the analysis knows, and that all that is known stays known.
func expectFolded(t *testing.T, g api.RFn, l []fold.State) {
	t.Helper()
	if again := fold.Analyse(g); !sameStates(again, l) {
		t.Fatalf("%s: %s, want %s", short(g), short(again), short(l))
	}
	if again := fold.Run(g); !reflect.DeepEqual(plain(again), plain(g)) {
		t.Fatalf("%s: %s", short(g), short(again))
	}
	for n, b := range g.Blocks {
		if !l[n].Reached {
			continue
		}
		c := l[n].Cells
		for _, i := range b.Ins {
			c = fold.Step(i, c)
			if d := readCell(c, i.D); d.Kind == api.KConst && (i.Op == api.RMov || i.Op == api.RBin || i.Op == api.RUn || i.Op == api.RList) {
				t.Fatal("left", short(g), n, i)
			}
		}
		if b.Term.Kind == api.TBr && readCell(c, b.Term.A).Kind == api.KConst {
			t.Fatal("left", short(g), n, b.Term)
		}
	}
}

// counts are what was seen of functions.
type counts struct{ reached, left, known, folded, jumps int }

// expectRead asks that Analyse and Run answer of f what the second reading does, and Step along its blocks.
func (n *counts) expectRead(t *testing.T, f api.RFn) {
	t.Helper()
	l, g := fold.Analyse(f), fold.Run(f)
	if want := readSolve(f); !sameStates(l, want) {
		t.Fatalf("Analyse of %s: %s, want %s", short(f), short(l), short(want))
	}
	if want := readRun(f, l); !reflect.DeepEqual(plain(g), plain(want)) {
		t.Fatalf("Run of %s: %s, want %s", short(f), short(g), short(want))
	}
	expectFolded(t, g, l)
	for k, b := range f.Blocks {
		c := l[k].Cells
		for at, i := range b.Ins {
			got, want := fold.Step(i, c), readStep(i, c)
			if !sameStates([]fold.State{{Cells: got}}, []fold.State{{Cells: want}}) {
				t.Fatalf("Step of %s, %s: %s, want %s", short(i), told(c), told(got), told(want))
			}
			c = got
			if g.Blocks[k].Ins[at].Op != i.Op {
				n.folded++
			}
		}
		n.count(l[k], b.Term != g.Blocks[k].Term)
	}
}

func (n *counts) count(s fold.State, isJump bool) {
	if isJump {
		n.jumps++
	}
	if !s.Reached {
		n.left++
		return
	}
	n.reached++
	for _, c := range s.Cells {
		n.known += c.Kind & api.KConst
	}
}

// Three blocks with all ends that they may have, and codes that write, read, copy and turn.
func TestAllThreeBlocks(t *testing.T) {
	terms := []api.RTerm{ret(0)}
	for to := range 3 {
		terms = append(terms, jump(to))
		for other := range 3 {
			terms = append(terms, br(1, to, other))
		}
	}
	var choices []api.RBlock
	for _, term := range terms {
		choices = append(choices, block(term), block(term, number(1, 0)), block(term, un(api.ONot, 1, 1)))
	}
	var n counts
	for _, a := range choices {
		for _, b := range choices {
			for _, c := range choices {
				n.expectRead(t, fn(1, 2, a, b, c))
			}
		}
	}
	if n.reached < 90000 || n.left < 30000 || n.known < 30000 || n.folded < 10000 || n.jumps < 15000 {
		t.Error(n)
	}
}

// All short codes of a block that leads back to itself, or on.
func TestAllShortCodes(t *testing.T) {
	alphabet := code(number(0, 1), number(2, 0), mov(1, 0), mov(0, 2), mov(2, 2), bin(api.OAdd, 0, 0, 1), bin(api.OEq, 1, 2, 2), un(api.ONot, 2, 1), call(1, 0, 2, 1), out(0), list(1, 2, 0, 2))
	var n counts
	var fill func(l []api.RIns, more int)
	fill = func(l []api.RIns, more int) {
		n.expectRead(t, fn(1, 3, block(br(1, 0, 1), l...), block(ret(0), mov(0, 2))))
		if more == 0 {
			return
		}
		for _, i := range alphabet {
			fill(append(slices.Clone(l), i), more-1)
		}
	}
	fill(nil, 3)
	if n.known < 300 || n.folded < 300 || n.jumps < 50 {
		t.Error(n)
	}
}

// less tells whether what a says holds wherever what b says does, so that a is the same or less.
func less(a, b []fold.State) bool {
	for n := range a {
		if a[n].Reached && !b[n].Reached {
			return false
		}
		for r, c := range a[n].Cells {
			if d := b[n].Cells[r]; c.Kind > d.Kind || c.Kind == 1 && d.Kind == 1 && !val.Same(c.V, d.V) {
				return false
			}
		}
	}
	return true
}

// eachState goes through all states of so many blocks of one register that may hold those values.
func eachState(blocks int, values []api.Value, see func([]fold.State)) {
	one := []fold.State{{Cells: cells(nothing())}, {Reached: true, Cells: cells(nothing())}, {Reached: true, Cells: cells(anything())}}
	for _, v := range values {
		one = append(one, fold.State{Reached: true, Cells: cells(always(v))})
	}
	var fill func(l []fold.State)
	fill = func(l []fold.State) {
		if len(l) == blocks {
			see(l)
			return
		}
		for _, s := range one {
			fill(append(l[:len(l):len(l)], s))
		}
	}
	fill(nil)
}

// Of all solutions of the equations that there are Analyse tells the one that is less than all others.
func TestNoSolutionIsLess(t *testing.T) {
	r := rand.New(rand.NewSource(14))
	values := []api.Value{val.Nil(), val.Int(0), val.Int(1)}
	codes := [][]api.RIns{nil, code(number(0, 0)), code(number(0, 1)), code(un(api.ONot, 0, 0)), code(bin(api.OSub, 0, 0, 0)), code(call(0, 0))}
	solutions, others := 0, 0
	for range 2500 {
		f := fn(r.Intn(2), 1, make([]api.RBlock, 3)...)
		for n := range f.Blocks {
			f.Blocks[n].Ins = codes[r.Intn(len(codes))]
			f.Blocks[n].Term = []api.RTerm{ret(0), jump(r.Intn(3)), br(0, r.Intn(3), r.Intn(3)), br(0, r.Intn(3), r.Intn(3))}[r.Intn(4)]
		}
		l, is := fold.Analyse(f), 0
		eachState(3, values, func(s []fold.State) {
			for n := range s {
				if !sameStates([]fold.State{readState(f, s, n)}, s[n:n+1]) {
					return
				}
			}
			solutions++
			if sameStates(s, l) {
				is++
			} else {
				others++
			}
			if !less(l, s) {
				t.Fatalf("%s: %s is no more than %s", short(f), short(l), short(s))
			}
		})
		if is != 1 {
			t.Fatalf("%s: %s is no solution", short(f), short(l))
		}
	}
	if solutions < 3000 || others < 500 {
		t.Error(solutions, others)
	}
}

func TestLikelyFunctions(t *testing.T) {
	r := rand.New(rand.NewSource(141))
	var n counts
	sound := 0
	for range 4000 {
		p := likely.Registers(r.Intn, 7)
		if sim.Check(p) == api.OK {
			sound++
		}
		for _, f := range p.Fns {
			n.expectRead(t, f)
			f.Params = r.Intn(f.Regs + 1)
			n.expectRead(t, f)
		}
	}
	if sound < 2500 || n.reached < 20000 || n.left < 20000 || n.known < 40000 || n.folded < 5000 || n.jumps < 5000 {
		t.Error(sound, n)
	}
}

func TestGreatLikelyFunctions(t *testing.T) {
	r := rand.New(rand.NewSource(142))
	var n counts
	for range 60 {
		for _, f := range likely.Registers(r.Intn, 40).Fns {
			f.Params = r.Intn(f.Regs + 1)
			n.expectRead(t, f)
		}
	}
	if n.reached < 500 || n.known < 300 || n.folded < 50 {
		t.Error(n)
	}
}

// One thing is changed. What Check then refuses is read as it stands.
func TestBlemishedFunctions(t *testing.T) {
	r := rand.New(rand.NewSource(143))
	checked := map[api.Errno]int{}
	var n counts
	for range 8000 {
		p := likely.Registers(r.Intn, 5)
		likely.Blemish(r.Intn, &p)
		checked[sim.Check(p)]++
		for _, f := range p.Fns {
			if r.Intn(2) == 0 {
				f.Params = 0 // more is known
			}
			n.expectRead(t, f)
		}
	}
	if checked[api.OK] < 700 || checked[api.ErrTick] < 100 || checked[api.ErrForm] < 2000 || n.folded < 3000 {
		t.Error(checked, n)
	}
}

// seeds are bytes of functions: the chapter's example, a loop, a known branch and a list.
func seeds() [][]byte {
	return [][]byte{
		{},
		{0, 1, 1, 3, 0, 0, 0, 2, 1, 0, 0, 0, 0, 0, 0, 0, 2, 0, 3, 0, 0, 0, 1, 0, 0, 0, 0, 0},
		{1, 3, 2, 2, 0, 0, 1, 3, 7, 0, 0, 0, 1, 0, 0, 0, 0, 0, 2, 1, 2, 0, 0, 0, 0, 0, 0, 0, 4, 2, 1, 0, 16, 0, 0, 0, 0, 0, 3, 2, 0, 0, 1, 2, 0, 2, 0, 0, 0, 0, 0, 0, 0},
		{0, 4, 3, 2, 1, 1, 2, 3, 1, 0, 0, 0, 0, 0, 0, 0, 5, 0, 8, 1, 0, 0, 0, 0, 0, 0, 0, 2, 0, 0, 4, 2, 1, 0, 17, 0, 0, 0, 0, 0, 3, 2, 0, 0, 1, 3, 3, 2, 2, 3, 0, 0, 0, 0, 0, 3, 3, 0, 0, 0},
	}
}

func TestAnyBytes(t *testing.T) {
	r := rand.New(rand.NewSource(144))
	var n counts
	for range 8000 {
		n.expectRead(t, likely.Fn(likely.Stained(r.Intn, seeds()...)))
	}
	if n.reached < 6000 || n.known < 8000 || n.folded < 2000 || n.jumps < 800 {
		t.Error(n)
	}
}

func FuzzFold(f *testing.F) {
	for _, b := range seeds() {
		f.Add(b)
	}
	f.Fuzz(func(t *testing.T, b []byte) {
		new(counts).expectRead(t, likely.Fn(b))
	})
}
