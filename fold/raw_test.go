package fold_test

import (
	"fmt"
	"math"
	"math/rand"
	"reflect"
	"slices"
	"sync"
	"testing"

	"ratline/api"
	"ratline/fold"
	"ratline/hand"
	"ratline/likely"
	"ratline/sim"
	"ratline/val"
)

// Promise 14.4, W9, W10: every call ends and none panics, whatever it is given.

func TestRawFunctions(t *testing.T) {
	r := rand.New(rand.NewSource(146))
	far := []int{math.MinInt, math.MinInt + 1, -1 << 40, -65, -64, -1, 0, 0, 0, 1, 1, 2, 3, 63, 64, 127, 128, 199, 200, 255, 256, 1 << 32, 1 << 40, math.MaxInt - 1, math.MaxInt}
	some := func() int { return far[r.Intn(len(far))] }
	maybe := func() int { return r.Intn(2) * some() }
	few := func() int { return []int{r.Intn(4), r.Intn(4), some()}[r.Intn(3)] }
	values := append(notOk(), distinct()...)
	var n counts
	for range 5000 {
		f := api.RFn{Params: maybe(), Regs: []int{some(), 1 + r.Intn(4)}[r.Intn(2)], Blocks: make([]api.RBlock, r.Intn(4))}
		for k := range f.Blocks {
			f.Blocks[k].Term = api.RTerm{Kind: r.Intn(5), A: few(), To: few(), Else: few()}
			for range r.Intn(5) {
				i := api.RIns{Op: r.Intn(10), D: few(), A: few(), B: few(), N: []int{r.Intn(22), some()}[r.Intn(2)], Deep: maybe(), K: values[r.Intn(len(values))]}
				for range r.Intn(4) {
					i.L = append(i.L, few())
				}
				f.Blocks[k].Ins = append(f.Blocks[k].Ins, i)
			}
		}
		n.expectRead(t, f)
	}
	if n.reached < 3000 || n.known < 10000 || n.folded < 300 || n.jumps < 100 {
		t.Error(n)
	}
}

// Cells as whoever may hand them in.
func TestRawCells(t *testing.T) {
	r := rand.New(rand.NewSource(147))
	values := append(notOk(), distinct()...)
	cell := func() fold.Cell {
		return fold.Cell{Kind: []int{0, 1, 1, 1, 2, 2, -1, 3, math.MaxInt}[r.Intn(9)], V: values[r.Intn(len(values))]}
	}
	for range 5000 {
		a, b := cell(), cell()
		if got, want := fold.Meet(a, b), readMeet(a, b); got.Kind != want.Kind || val.Show(got.V) != val.Show(want.V) || !val.Ok(got.V) {
			t.Fatal(short(a), short(b), short(got))
		}
		c := make([]fold.Cell, r.Intn(5))
		for n := range c {
			c[n] = cell()
		}
		i := api.RIns{Op: r.Intn(10), D: r.Intn(6) - 1, A: r.Intn(6) - 1, B: r.Intn(6) - 1, N: r.Intn(22), K: values[r.Intn(len(values))], L: []int{r.Intn(6) - 1, r.Intn(6) - 1}}
		got := fold.Step(i, c)
		if len(got) != len(c) {
			t.Fatal(i, len(got), len(c))
		}
		for n := range c {
			if !val.Ok(got[n].V) || n != i.D && (got[n].Kind != c[n].Kind || val.Show(got[n].V) != val.Show(c[n].V)) {
				t.Fatal(short(i), short(c), short(got))
			}
		}
	}
}

// isSound asks that a function that is made great is still one that may be.
func isSound(t *testing.T, f api.RFn) {
	t.Helper()
	if e := sim.Check(api.RProg{Fns: []api.RFn{f, fn(0, 1, block(ret(0)))}, Main: 1}); e != api.OK {
		t.Fatal(e)
	}
}

// upTo200 are 200 Ins, each of which writes its own register.
func upTo200(make func(r int) api.RIns) []api.RIns {
	var l []api.RIns
	for r := range 200 {
		l = append(l, make(r))
	}
	return l
}

// Of 2,000 blocks, in a row from the first to the last, and from the last back to the second.
func TestLongRows(t *testing.T) {
	ahead, back := fn(0, 200, make([]api.RBlock, 2000)...), fn(0, 200, make([]api.RBlock, 2000)...)
	for n := range 2000 {
		ahead.Blocks[n] = block(jump(min(n+1, 1999)))
		back.Blocks[n] = block(jump((n + 1999) % 2000))
	}
	last := block(ret(0), upTo200(func(r int) api.RIns { return mov(r, r) })...)
	ahead.Blocks[1999], back.Blocks[1] = last, last
	for _, f := range []api.RFn{ahead, back} {
		f.Blocks[0].Ins = upTo200(func(r int) api.RIns { return number(r, int64(r)) })
		isSound(t, f)
		want := "[" + told(fold.Step(tick(1), fold.Analyse(fn(0, 200, block(jump(1), f.Blocks[0].Ins...), block(ret(0))))[1].Cells)) + "]"
		for n, s := range fold.Analyse(f)[1:] {
			if got := toldStates(t, []fold.State{s}, 200); got != want || s.Cells[199].V.N != 199 {
				t.Fatal(n, got)
			}
		}
		g := fold.Run(f)
		for r, i := range g.Blocks[slices.IndexFunc(f.Blocks, func(b api.RBlock) bool { return b.Term.Kind == api.TRet })].Ins {
			if !reflect.DeepEqual(i, number(r, int64(r))) {
				t.Fatal(r, i)
			}
		}
		isSound(t, g)
	}
}

// A ring of 2,000 blocks, in which the registers fall one after the other, one a round.
func TestLongRing(t *testing.T) {
	for _, step := range []int{1, 7} {
		f := fn(1, 200, make([]api.RBlock, 2000)...)
		for k := range 2000 {
			f.Blocks[k*step%2000] = block(jump((k + 1) * step % 2000))
		}
		f.Blocks[0].Ins = code(tick(1))
		for r := 1; r < 199; r++ { // the last one stays
			f.Blocks[(2000-10*r)*step%2000].Ins = code(mov(r, r-1))
		}
		isSound(t, f)
		for n, s := range fold.Analyse(f) {
			for r, c := range s.Cells {
				if !s.Reached || (c.Kind == api.KConst) != (r == 199) || (c.Kind == api.KAny) != (r < 199) {
					t.Fatal(step, n, r, c)
				}
			}
		}
		if g := fold.Run(f); !reflect.DeepEqual(plain(g), plain(f)) {
			t.Fatal(step)
		}
	}
}

// Each of 2,000 blocks is a known branch, on one half of which nobody goes.
func TestManyKnownBranches(t *testing.T) {
	f := fn(0, 2, make([]api.RBlock, 2000)...)
	for n := range f.Blocks {
		f.Blocks[n] = block(br(n%2, (n+2)%2000, min(n+1, 1999)), number(0, 1), un(api.ONot, 1, 0))
	}
	f.Blocks[1998].Term, f.Blocks[1999].Term = ret(0), ret(0)
	isSound(t, f)
	g := fold.Run(f)
	for n, s := range fold.Analyse(f) {
		b := g.Blocks[n]
		if s.Reached != (n%2 == 0) || (b.Ins[1].Op == api.RConst) != s.Reached || n < 1998 && (b.Term.Kind == api.TJump) != s.Reached {
			t.Fatal(n, s.Reached, b)
		}
	}
}

// Branches across 2,000 blocks and 200 registers: the equations are asked of some of them.
func TestManyBranches(t *testing.T) {
	r := rand.New(rand.NewSource(148))
	f := fn(8, 200, make([]api.RBlock, 2000)...)
	for n := range f.Blocks {
		f.Blocks[n] = block(br(r.Intn(200), r.Intn(2000), r.Intn(2000)), tick(1), mov(r.Intn(200), r.Intn(200)), mov(r.Intn(200), r.Intn(200)), un(api.ONot, r.Intn(200), r.Intn(200)), number(r.Intn(200), int64(r.Intn(3))))
		if r.Intn(9) == 0 {
			f.Blocks[n].Term = ret(r.Intn(200))
		}
	}
	f.Blocks[0].Term.A = 0
	isSound(t, f)
	l := fold.Analyse(f)
	for _, n := range []int{0, f.Blocks[0].Term.To, 1, 777, 1998, 1999} {
		if want := readState(f, l, n); !sameStates([]fold.State{want}, l[n:n+1]) {
			t.Error(n, want, l[n])
		}
	}
	expectFolded(t, fold.Run(f), l)
}

// The longest block that there is, and lists of the greatest Size in all registers.
func TestGreatest(t *testing.T) {
	f := fn(0, 200, block(ret(0), slices.Concat(code(number(0, 1)), slices.Repeat(code(bin(api.OAdd, 1, 0, 1), mov(1, 0), un(api.ONeg, 0, 0)), 4600))...))
	isSound(t, f)
	if g := fold.Run(f); len(g.Blocks[0].Ins) != 13801 || !reflect.DeepEqual(g.Blocks[0].Ins[1], f.Blocks[0].Ins[1]) || !reflect.DeepEqual(g.Blocks[0].Ins[13800], number(0, 1)) || !reflect.DeepEqual(g.Blocks[0].Ins[13799], number(1, -1)) {
		t.Error(short(g))
	}
	f = fn(1, 200, block(br(0, 1, 2), upTo200(func(r int) api.RIns { return konst(r, longest()) })...))
	f.Blocks[0].Term.A, f.Blocks[0].Ins[0] = 0, tick(1)
	f.Blocks = append(f.Blocks, f.Blocks[0], block(ret(5), mov(5, 7), list(6, 7)))
	f.Blocks[1].Term = br(0, 1, 2)
	isSound(t, f)
	g := fold.Run(f)
	if l := fold.Analyse(f); !val.Same(l[2].Cells[7].V, longest()) || !val.Same(g.Blocks[2].Ins[0].K, longest()) || g.Blocks[2].Ins[1].Op != api.RList {
		t.Error(short(g.Blocks[2]))
	}
}

// What is far longer than may be ends too.
func TestTooLong(t *testing.T) {
	long := list(3, make([]int, 1<<22)...)
	if g := fold.Run(fn(0, 4, block(ret(3), long, mov(0, 3)))); len(g.Blocks[0].Ins[0].L) != 1<<22 || g.Blocks[0].Ins[1].Op != api.RMov {
		t.Error(len(g.Blocks[0].Ins))
	}
	f := fn(0, 200, block(ret(3), slices.Repeat(code(mov(3, 4)), 1<<18)...))
	if g := fold.Run(f); len(g.Blocks[0].Ins) != 1<<18 || g.Blocks[0].Ins[1<<17].Op != api.RConst {
		t.Error(len(g.Blocks[0].Ins))
	}
	f = fn(1, 3, make([]api.RBlock, 1<<18)...)
	for n := range f.Blocks {
		f.Blocks[n] = block(br(n%3, (n+1)%(1<<18), n*n%(1<<18)), mov((n+1)%3, 2))
	}
	if l, g := fold.Analyse(f), fold.Run(f); len(l) != 1<<18 || len(g.Blocks) != 1<<18 {
		t.Error(len(l), len(g.Blocks))
	}
	if l := fold.Step(mov(5, 7), make([]fold.Cell, 1<<18)); len(l) != 1<<18 {
		t.Error(len(l))
	}
}

// Rules 3 and 8: what is handed in is not changed, nor kept; what is answered is new memory; the same call answers the same.

func fullCells(c []fold.Cell) []fold.Cell {
	c = hand.WithRoom(c, always(val.Text("spare")))
	for n := range c {
		c[n].V = hand.FullValue(c[n].V)
	}
	return c
}

// memory notes all places of lists, spare room too, and what stands in them.
type memory struct {
	places map[any]int
	all    []any
}

func note[T any](m *memory, l []T) []T {
	l = l[:cap(l)]
	for n := range l {
		m.places[&l[n]]++
	}
	m.all = append(m.all, slices.Clone(l))
	return l
}

func (m *memory) value(v api.Value) {
	for _, x := range note(m, v.L) {
		m.value(x)
	}
}

func (m *memory) cells(c []fold.Cell) {
	for _, x := range note(m, c) {
		m.value(x.V)
	}
}

func (m *memory) states(l []fold.State) {
	for _, s := range note(m, l) {
		m.cells(s.Cells)
	}
}

func (m *memory) fn(f api.RFn) {
	for _, b := range note(m, f.Blocks) {
		for _, i := range note(m, b.Ins) {
			note(m, i.L)
			m.value(i.K)
		}
	}
}

// isShared tells whether two lists share a place.
func (m *memory) isShared() bool {
	for _, n := range m.places {
		if n > 1 {
			return true
		}
	}
	return false
}

func noted(see func(m *memory)) *memory {
	m := &memory{places: map[any]int{}}
	see(m)
	return m
}

// answers notes all that calls answer of f.
func (m *memory) answers(f api.RFn) {
	l := fold.Analyse(f)
	m.states(l)
	m.fn(fold.Run(f))
	for n, b := range f.Blocks {
		for _, i := range b.Ins {
			m.cells(fold.Step(i, l[n].Cells))
		}
		for r, c := range l[n].Cells {
			m.value(fold.Meet(c, l[0].Cells[r]).V)
			m.value(fold.Meet(c, nothing()).V)
			m.value(fold.Meet(nothing(), c).V)
		}
	}
}

// some is a function in which one list is known at many places, and within others.
func some() api.RFn {
	l := read(`[1, ["a", [2]], []]`)
	return fn(1, 6,
		block(br(0, 1, 2), konst(1, l), konst(2, val.Copy(l)), mov(3, 1), list(4, 1, 1, 3), mov(4, 4), un(api.ONot, 5, 4)),
		block(br(5, 3, 2), konst(1, l), mov(1, 1), tick(1), call(0, 5, 0), list(0, 5, 5)),
		block(ret(4), mov(4, 4), bin(api.OAdd, 3, 3, 3), bin(api.OGet, 2, 0, 1)),
		block(jump(3), konst(4, l), mov(4, 4), list(4, 4, 3)))
}

func TestNothingIsChanged(t *testing.T) {
	expect := func(f, g api.RFn) {
		t.Helper()
		fold.Analyse(f)
		fold.Run(f)
		if !reflect.DeepEqual(hand.Everything(f), hand.Everything(g)) {
			t.Fatal("what was handed in is changed")
		}
	}
	expect(hand.Full(some()), hand.Full(some()))
	for seed := range int64(1500) {
		p, q := likely.Registers(rand.New(rand.NewSource(seed)).Intn, 7), likely.Registers(rand.New(rand.NewSource(seed)).Intn, 7)
		for n := range p.Fns {
			expect(hand.Full(p.Fns[n]), hand.Full(q.Fns[n]))
		}
	}
	mine := func() ([]fold.Cell, api.RFn) {
		return fullCells(fold.Analyse(some())[2].Cells), hand.Full(some())
	}
	for n, b := range some().Blocks {
		for k := range b.Ins {
			c, f := mine()
			d, g := mine()
			fold.Step(f.Blocks[n].Ins[k], c)
			fold.Meet(c[1], c[2])
			fold.Meet(c[3], nothing())
			see := func(c []fold.Cell, f api.RFn) []any {
				return noted(func(m *memory) { m.cells(c); m.fn(f) }).all
			}
			if !reflect.DeepEqual(see(c, f), see(d, g)) {
				t.Fatal("what was handed in is changed", n, k)
			}
		}
	}
}

// No two lists of answers share memory, spare room too, and none shares any with what was handed in; what is written into an answer is seen nowhere.
func TestAnswersAreNewMemory(t *testing.T) {
	f, c := hand.Full(some()), fullCells(fold.Analyse(some())[2].Cells)
	m := noted(func(m *memory) {
		m.fn(f)
		m.cells(c)
		m.answers(f)
		m.answers(f)
		for _, i := range f.Blocks[0].Ins {
			m.cells(fold.Step(i, c))
		}
		m.value(fold.Meet(c[1], c[2]).V)
		m.value(fold.Meet(c[1], nothing()).V)
		m.value(fold.Meet(nothing(), c[1]).V)
	})
	if m.isShared() {
		t.Error("two lists share memory")
	}
	if len(m.places) < 1000 {
		t.Error(len(m.places))
	}
	want := noted(func(m *memory) { m.answers(hand.Full(some())) }).all
	l, g := fold.Analyse(f), fold.Run(f)
	for n := range l {
		clear(l[n].Cells[:cap(l[n].Cells)])
		clear(g.Blocks[n].Ins)
	}
	if got := noted(func(m *memory) { m.answers(f) }).all; !reflect.DeepEqual(got, want) {
		t.Error("what was answered is kept")
	}
}

// The same call answers the same, whoever else calls, and whatever room stands behind its lists.
func TestTheSameIsAnswered(t *testing.T) {
	r := rand.New(rand.NewSource(149))
	for range 300 {
		f := likely.Registers(r.Intn, 7).Fns[0]
		want := fmt.Sprint(fold.Analyse(f), fold.Run(f))
		var all sync.WaitGroup
		for n := range 4 {
			all.Go(func() {
				g := f
				if n%2 == 1 {
					g = hand.Full(f)
				}
				if s := fmt.Sprint(fold.Analyse(g), fold.Run(g)); s != want {
					t.Error(short(f), short(s), short(want))
				}
			})
		}
		all.Wait()
	}
}
