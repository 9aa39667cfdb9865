package dead_test

import (
	"math/rand"
	"reflect"
	"slices"
	"testing"

	"ratline/api"
	"ratline/dead"
	"ratline/likely"
	"ratline/live"
	"ratline/sim"
)

// A second, slow reading of chapter 15: what a register is told by is looked for backward from where it is read; what is needed is asked by going all ways from there; what is needless is taken out all at once, and then again.

// writes tells whether i writes r.
func writes(i api.RIns, r int) bool {
	return slices.Contains([]int{1, 2, 3, 4, 5, 8}, i.Op) && i.D == r && r != -1
}

// readTold is what r is told by ahead of a place of l: by what its last write ahead of there made it a copy of, if that is not written since.
func readTold(l []api.RIns, at, r int) int {
	last := at - 1
	for last >= 0 && !writes(l[last], r) {
		last--
	}
	if last < 0 || l[last].Op != 2 {
		return r
	}
	source := readTold(l, last, l[last].A)
	if source == r || slices.ContainsFunc(l[last+1:at], func(i api.RIns) bool { return writes(i, source) }) {
		return r
	}
	return source
}

// readFields are those of i at which it reads registers.
func readFields(i *api.RIns) []*int {
	var l []*int
	if slices.Contains([]int{2, 3, 4, 6}, i.Op) {
		l = append(l, &i.A)
	}
	if i.Op == 3 {
		l = append(l, &i.B)
	}
	for n := range i.L {
		if i.Op == 5 || i.Op == 8 {
			l = append(l, &i.L[n])
		}
	}
	return l
}

// readEnd is where an end reads a register.
func readEnd(t *api.RTerm) []*int {
	return map[int][]*int{2: {&t.A}, 3: {&t.A}}[t.Kind]
}

func readCopies(f api.RFn) api.RFn {
	g := copied(f)
	for n, b := range f.Blocks {
		for k := range b.Ins {
			for _, r := range readFields(&g.Blocks[n].Ins[k]) {
				*r = readTold(b.Ins, k, *r)
			}
		}
		for _, r := range readEnd(&g.Blocks[n].Term) {
			*r = readTold(b.Ins, len(b.Ins), *r)
		}
	}
	return g
}

// readTo are the fields of an end that say where it leads.
func readTo(t *api.RTerm) []*int {
	return map[int][]*int{1: {&t.To}, 2: {&t.To, &t.Else}}[t.Kind]
}

// readReached are the blocks that are come to: 0, and again and again those to which one of them leads.
func readReached(f api.RFn) []int {
	var l []int
	for n := range f.Blocks {
		if n == 0 {
			l = append(l, n)
		}
	}
	for k := 0; k < len(l); k++ {
		for _, to := range readTo(&f.Blocks[l[k]].Term) {
			if *to >= 0 && *to < len(f.Blocks) && !slices.Contains(l, *to) {
				l = append(l, *to)
			}
		}
	}
	slices.Sort(l)
	return l
}

func readUnreach(f api.RFn) api.RFn {
	g, reached := copied(f), readReached(f)
	var left []api.RBlock
	for _, n := range reached {
		b := g.Blocks[n]
		for _, to := range readTo(&b.Term) {
			if k := slices.Index(reached, *to); k >= 0 {
				*to = k
			}
		}
		left = append(left, b)
	}
	g.Blocks = left
	return g
}

// place is that of an Ins of a block, or, behind the last one, of its end.
type place struct{ block, at int }

func reads(l []*int, r int) bool {
	return slices.ContainsFunc(l, func(p *int) bool { return *p == r })
}

// isNeeded tells whether some way from a place on reads r ahead of each write.
func isNeeded(f api.RFn, from place, r int) bool {
	seen, open := map[place]int{}, []place{from}
	for r >= 0 && r < 200 && len(open) > 0 {
		p := open[len(open)-1]
		open = open[:len(open)-1]
		if seen[p]++; seen[p] > 1 {
			continue
		}
		b := &f.Blocks[p.block]
		if p.at == len(b.Ins) {
			if reads(readEnd(&b.Term), r) {
				return true
			}
			for _, to := range readTo(&b.Term) {
				if *to >= 0 && *to < len(f.Blocks) {
					open = append(open, place{*to, 0})
				}
			}
			continue
		}
		if reads(readFields(&b.Ins[p.at]), r) {
			return true
		}
		if !writes(b.Ins[p.at], r) {
			open = append(open, place{p.block, p.at + 1})
		}
	}
	return false
}

// needless are the places of all Ins that are Pure and whose D is not live behind them.
func needless(f api.RFn) []place {
	var l []place
	for n, b := range f.Blocks {
		for k, i := range b.Ins {
			isTotal := (i.Op == 3 || i.Op == 4) && slices.Contains([]int{6, 7, 16}, i.N)
			if (i.Op == 1 || i.Op == 2 || isTotal) && !isNeeded(f, place{n, k + 1}, i.D) {
				l = append(l, place{n, k})
			}
		}
	}
	return l
}

// without is f without the Ins at those places, which are rising.
func without(f api.RFn, l []place) api.RFn {
	g := copied(f)
	for _, p := range slices.Backward(l) {
		b := &g.Blocks[p.block]
		b.Ins = slices.Delete(b.Ins, p.at, p.at+1)
	}
	return g
}

// readSweep tells, besides, how often there was something to take out.
func readSweep(f api.RFn) (api.RFn, int) {
	g, rounds := copied(f), 0
	for {
		l := needless(g)
		if len(l) == 0 {
			return g, rounds
		}
		g = without(g, l)
		rounds++
	}
}

// counts are what was seen of functions.
type counts struct{ told, left, swept, twice, needed int }

func countIns(f api.RFn) int {
	n := 0
	for _, b := range f.Blocks {
		n += len(b.Ins)
	}
	return n
}

func expectMade(t *testing.T, name string, f, got, want api.RFn) {
	t.Helper()
	if !reflect.DeepEqual(plain(got), plain(want)) {
		t.Fatalf("%s of %s: %s, want %s", name, short(f), short(got), short(want))
	}
}

// expectRead asks that all calls answer of f what the second reading does.
func (n *counts) expectRead(t *testing.T, f api.RFn) {
	t.Helper()
	told, left := readCopies(f), readUnreach(f)
	swept, rounds := readSweep(f)
	expectMade(t, "Copies", f, dead.Copies(f), told)
	expectMade(t, "Unreach", f, dead.Unreach(f), left)
	expectMade(t, "Sweep", f, dead.Sweep(f), swept)
	all, _ := readSweep(readUnreach(told))
	g := dead.Run(f)
	expectMade(t, "Run", f, g, all)
	expectClean(t, g)
	if !reflect.DeepEqual(told, copied(f)) {
		n.told++
	}
	n.left += len(f.Blocks) - len(left.Blocks)
	n.swept += countIns(f) - countIns(swept)
	n.twice += max(rounds-1, 0)
	n.needed += countIns(swept)
}

// Promise 15.2: behind Run no block is left that is not come to, and no Pure Ins whose D is not live behind it.
func expectClean(t *testing.T, g api.RFn) {
	t.Helper()
	if l := readReached(g); len(l) != len(g.Blocks) {
		t.Fatal("not come to", short(g), l)
	}
	for n, b := range g.Blocks {
		l := live.At(g, n)
		for k, i := range b.Ins {
			if live.Pure(i) && !slices.Contains(l[k+1], live.Def(i)) {
				t.Fatal("needless", short(g), n, i)
			}
		}
	}
}

// Three blocks with all ends that they may have, and codes that write, copy, turn, or do nothing.
func TestAllThreeBlocks(t *testing.T) {
	terms := []api.RTerm{ret(0)}
	for to := range 3 {
		terms = append(terms, jump(to))
		for other := range 3 {
			terms = append(terms, br(1, to, other))
		}
	}
	var choices []api.RBlock
	for _, term := range terms {
		choices = append(choices, block(term), block(term, mov(2, 0), mov(0, 2)), block(term, un(api.ONot, 2, 2), mov(1, 2)))
	}
	var n counts
	for _, a := range choices {
		for _, b := range choices {
			for _, c := range choices {
				n.expectRead(t, fn(1, 3, a, b, c))
			}
		}
	}
	if n.told < 30000 || n.left < 30000 || n.swept < 20000 || n.twice < 2000 || n.needed < 50000 {
		t.Error(n)
	}
}

// All short codes of a block that leads back to itself, or on.
func TestAllShortCodes(t *testing.T) {
	alphabet := code(number(0), number(2), mov(1, 0), mov(0, 1), mov(2, 1), mov(1, 2), mov(2, 2), bin(api.OEq, 1, 2, 0), bin(api.OAdd, 0, 0, 1), un(api.ONot, 2, 1), call(1, 0, 2, 1), out(1), list(1, 2, 0))
	var n counts
	var fill func(l []api.RIns, more int)
	fill = func(l []api.RIns, more int) {
		n.expectRead(t, fn(1, 3, block(br(1, 0, 1), l...), block(ret(2), mov(2, 1), out(2))))
		n.expectRead(t, fn(1, 3, block(ret(0), l...)))
		if more == 0 {
			return
		}
		for _, i := range alphabet {
			fill(append(slices.Clone(l), i), more-1)
		}
	}
	fill(nil, 4)
	if n.told < 20000 || n.swept < 30000 || n.twice < 500 || n.needed < 50000 {
		t.Error(n)
	}
}

// Of codes of RMovs alone each place is told as the reading has it, and a run of them leaves the same in all registers.
func TestAllRowsOfCopies(t *testing.T) {
	var movs []api.RIns
	for d := range 3 {
		for a := range 3 {
			movs = append(movs, mov(d, a))
		}
	}
	tried := 0
	var fill func(l []api.RIns, more int)
	fill = func(l []api.RIns, more int) {
		f := fn(0, 4, block(ret(3), append(l[:len(l):len(l)], list(3, 0, 1, 2))...))
		g := dead.Copies(f)
		expectMade(t, "Copies", f, g, readCopies(f))
		if !slices.Equal(leaves(f.Blocks[0].Ins), leaves(g.Blocks[0].Ins)) {
			t.Fatal(short(f), short(g))
		}
		tried++
		if more == 0 {
			return
		}
		for _, i := range movs {
			fill(append(l[:len(l):len(l)], i), more-1)
		}
	}
	fill(nil, 5)
	if tried != 1+9+81+729+6561+59049 {
		t.Error(tried)
	}
}

// leaves tells what an RList behind RMovs takes, if each register held its own number at first.
func leaves(l []api.RIns) []int {
	held := []int{0, 1, 2, 3}
	var taken []int
	for _, i := range l {
		if i.Op == api.RMov {
			held[i.D] = held[i.A]
		}
		for _, r := range i.L {
			taken = append(taken, held[r])
		}
	}
	return taken
}

// What is needless may be taken out one by one, in whatever order: the same is left.
func TestSweepInAnyOrder(t *testing.T) {
	r := rand.New(rand.NewSource(151))
	taken := 0
	for range 1500 {
		f := someMoves(r, 1+r.Intn(6), 1+r.Intn(5))
		want := dead.Sweep(f)
		for range 3 {
			g := f
			for l := needless(g); len(l) > 0; l = needless(g) {
				k := r.Intn(len(l))
				g = without(g, l[k:k+1])
				taken++
			}
			expectMade(t, "Sweep", f, g, want)
		}
	}
	if taken < 5000 {
		t.Error(taken)
	}
}

// someMoves is a function of so many blocks and registers, most of whose Ins are copies or Pure.
func someMoves(r *rand.Rand, blocks, regs int) api.RFn {
	f := fn(r.Intn(regs+1), regs, make([]api.RBlock, blocks)...)
	reg := func() int { return r.Intn(regs) }
	for n := range f.Blocks {
		b := &f.Blocks[n]
		for range r.Intn(8) {
			i := code(mov(reg(), reg()), mov(reg(), reg()), mov(reg(), reg()), un(api.ONot, reg(), reg()), bin(api.OEq, reg(), reg(), reg()), number(reg()), list(reg(), reg(), reg()), out(reg()), tick(1))[r.Intn(9)]
			b.Ins = append(b.Ins, deep(r.Intn(3), i))
		}
		b.Term = []api.RTerm{ret(reg()), jump(r.Intn(blocks)), jump(r.Intn(blocks)), br(reg(), r.Intn(blocks), r.Intn(blocks)), br(reg(), r.Intn(blocks), r.Intn(blocks))}[r.Intn(5)]
	}
	return f
}

func TestManyMoves(t *testing.T) {
	r := rand.New(rand.NewSource(152))
	var n counts
	for range 8000 {
		n.expectRead(t, someMoves(r, 1+r.Intn(7), 1+r.Intn(6)))
	}
	for range 300 { // with all registers
		n.expectRead(t, someMoves(r, 1+r.Intn(12), 200))
	}
	if n.told < 3500 || n.left < 10000 || n.swept < 20000 || n.twice < 2000 || n.needed < 20000 {
		t.Error(n)
	}
}

func TestLikelyFunctions(t *testing.T) {
	r := rand.New(rand.NewSource(153))
	var n counts
	sound := 0
	for range 5000 {
		p := likely.Registers(r.Intn, 7)
		if sim.Check(p) == api.OK {
			sound++
		}
		for _, f := range p.Fns {
			n.expectRead(t, f)
		}
	}
	if sound < 3000 || n.told < 1500 || n.left < 10000 || n.swept < 15000 || n.twice < 300 || n.needed < 40000 {
		t.Error(sound, n)
	}
}

func TestGreatLikelyFunctions(t *testing.T) {
	r := rand.New(rand.NewSource(154))
	var n counts
	for range 100 {
		for _, f := range likely.Registers(r.Intn, 60).Fns {
			n.expectRead(t, f)
		}
	}
	if n.told < 100 || n.left < 1000 || n.swept < 1000 || n.needed < 5000 {
		t.Error(n)
	}
}

// One thing is changed. What Check then refuses is read as it stands.
func TestBlemishedFunctions(t *testing.T) {
	r := rand.New(rand.NewSource(155))
	checked := map[api.Errno]int{}
	var n counts
	for range 12000 {
		p := likely.Registers(r.Intn, 5)
		if r.Intn(2) == 0 {
			p.Fns[0].Blocks = someMoves(r, 1+r.Intn(5), p.Fns[0].Regs).Blocks
		}
		likely.Blemish(r.Intn, &p)
		checked[sim.Check(p)]++
		for _, f := range p.Fns {
			n.expectRead(t, f)
		}
	}
	if checked[api.OK] < 700 || checked[api.ErrTick] < 300 || checked[api.ErrForm] < 5000 || n.told < 4000 || n.swept < 40000 {
		t.Error(checked, n)
	}
}

// seeds are bytes of functions: the chapter's example, a loop, a block that is not come to, and a list.
func seeds() [][]byte {
	return [][]byte{
		{},
		{0, 3, 1, 3, 2, 0, 0, 2, 2, 1, 0, 0, 0, 0, 0, 0, 0, 0, 2, 2, 1},
		{1, 3, 2, 2, 0, 0, 1, 3, 7, 0, 0, 0, 1, 0, 0, 0, 0, 0, 2, 1, 2, 0, 0, 0, 0, 0, 0, 0, 4, 2, 1, 0, 16, 0, 0, 0, 0, 0, 3, 2, 0, 0, 1, 2, 0, 2, 0, 0, 0, 0, 0, 0, 0},
		{0, 4, 3, 1, 0, 2, 0, 2, 2, 1, 0, 0, 0, 0, 0, 0, 0, 0, 8, 2, 0, 0, 0, 0, 0, 0, 0, 2, 1, 1, 3, 1, 0, 0, 0, 3, 2, 0, 0, 1, 6, 0, 2},
	}
}

func TestAnyBytes(t *testing.T) {
	r := rand.New(rand.NewSource(156))
	var n counts
	for range 15000 {
		n.expectRead(t, likely.Fn(likely.Stained(r.Intn, seeds()...)))
	}
	if n.told < 2000 || n.left < 3000 || n.swept < 5000 || n.needed < 3000 {
		t.Error(n)
	}
}

func FuzzDead(f *testing.F) {
	for _, b := range seeds() {
		f.Add(b)
	}
	f.Fuzz(func(t *testing.T, b []byte) {
		new(counts).expectRead(t, likely.Fn(b))
	})
}
