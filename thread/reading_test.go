package thread_test

import (
	"math"
	"math/rand"
	"reflect"
	"slices"
	"testing"

	"ratline/api"
	"ratline/dead"
	"ratline/hand"
	"ratline/likely"
	"ratline/sim"
	"ratline/thread"
)

// A second, slow reading of chapter 16: a Final is where one stands after as many steps as there are blocks; what is laid together is laid together one by one, the least first, and blocks are numbered anew each time.

func isBlock(f api.RFn, n int) bool { return n >= 0 && n < len(f.Blocks) }

// readStep is where block n leads, if it only leads on; n itself, if not.
func readStep(f api.RFn, n int) int {
	if isBlock(f, n) && len(f.Blocks[n].Ins) == 0 && f.Blocks[n].Term.Kind == 1 {
		return f.Blocks[n].Term.To
	}
	return n
}

func readFinal(f api.RFn, n int) int {
	for range f.Blocks {
		n = readStep(f, n)
	}
	least := n
	for range f.Blocks { // one that is not there any more is in a circle
		n = readStep(f, n)
		least = min(least, n)
	}
	if !isBlock(f, least) {
		return -1
	}
	return least
}

// readTo are the fields of an end that say where it leads.
func readTo(t *api.RTerm) []*int {
	switch t.Kind {
	case 1:
		return []*int{&t.To}
	case 2:
		return []*int{&t.To, &t.Else}
	}
	return nil
}

func readEnds(f api.RFn) api.RFn {
	g := copied(f)
	for n := range g.Blocks {
		t := &g.Blocks[n].Term
		for _, to := range readTo(t) {
			*to = readFinal(f, *to)
		}
		if t.Kind == 2 && t.To == t.Else {
			*t = api.RTerm{Kind: 1, To: t.To}
		}
	}
	return g
}

// readLed is how often each block is led to, once as To and once as Else.
func readLed(f api.RFn) []int {
	led := make([]int, len(f.Blocks))
	for _, b := range f.Blocks {
		for _, to := range readTo(&b.Term) {
			if isBlock(f, *to) {
				led[*to]++
			}
		}
	}
	return led
}

// readLeast is the least block that the one to which it jumps is to stand behind; -1, if there is none.
func readLeast(f api.RFn) int {
	led := readLed(f)
	return slices.IndexFunc(hand.Upto(len(f.Blocks)), func(n int) bool {
		t := f.Blocks[n].Term
		return t.Kind == 1 && t.To != 0 && t.To != n && isBlock(f, t.To) && led[t.To] == 1
	})
}

// readMerge tells, besides, how many blocks are gone.
func readMerge(f api.RFn) (api.RFn, int) {
	g, count := copied(f), len(f.Blocks)
	for n := readLeast(g); n >= 0; n = readLeast(g) {
		gone := g.Blocks[n].Term.To
		behind := g.Blocks[gone]
		g.Blocks[n] = api.RBlock{Ins: slices.Concat(g.Blocks[n].Ins, behind.Ins), Term: behind.Term}
		for k := range g.Blocks {
			for _, to := range readTo(&g.Blocks[k].Term) {
				if isBlock(g, *to) && *to > gone && k != gone {
					*to--
				}
			}
		}
		g.Blocks = slices.Delete(g.Blocks, gone, gone+1)
	}
	return g, count - len(g.Blocks)
}

// readRun tells, besides, how often Ends changed something.
func readRun(f api.RFn) (api.RFn, int) {
	g, rounds := copied(f), 0
	for h := readEnds(g); !reflect.DeepEqual(plain(g), plain(h)); h = readEnds(g) {
		g = h
		rounds++
	}
	g, _ = readMerge(dead.Unreach(g))
	return g, rounds
}

// counts are what was seen of functions: ends that were turned, branches that became jumps, blocks that stand behind others, rounds beyond the first, blocks that went round, blocks that are gone behind Run.
type counts struct{ turned, jumps, merged, rounds, circles, gone int }

// expectRead asks that all calls answer of f what the second reading does.
func (n *counts) expectRead(t *testing.T, f api.RFn) {
	t.Helper()
	for k := -2; k < len(f.Blocks)+2; k++ {
		if got, want := thread.Final(f, k), readFinal(f, k); got != want {
			t.Fatalf("Final of %d is %d, want %d\n%s", k, got, want, short(f))
		}
	}
	turned := readEnds(f)
	expectMade(t, "Ends", f, thread.Ends(f), turned)
	merged, count := readMerge(f)
	expectMade(t, "Merge", f, thread.Merge(f), merged)
	run, rounds := readRun(f)
	g := thread.Run(f)
	expectMade(t, "Run", f, g, run)
	n.circles += expectThreaded(t, f, g)
	for k, b := range f.Blocks {
		if end := turned.Blocks[k].Term; end != b.Term {
			n.turned++
			n.jumps += b.Term.Kind - end.Kind
		}
	}
	n.merged += count
	n.rounds += max(0, rounds-1)
	n.gone += len(f.Blocks) - len(g.Blocks)
}

// Promise 16.2, W4: behind Run no end leads to a block that only leads on, but in circles; no two ways of a branch are one, and nothing is left that could be turned, left out or laid together. It tells how many blocks go round.
func expectThreaded(t *testing.T, f, g api.RFn) int {
	t.Helper()
	circles := 0
	for n, b := range g.Blocks {
		if b.Term.Kind == api.TBr && b.Term.To == b.Term.Else {
			t.Fatalf("a branch to one place: %d\n%sof\n%s", n, short(g), short(f))
		}
		for _, to := range readTo(&b.Term) {
			if !isBlock(g, *to) {
				if *to != -1 {
					t.Fatalf("no block: %d\n%sof\n%s", *to, short(g), short(f))
				}
				continue
			}
			if b := g.Blocks[*to]; len(b.Ins) == 0 && b.Term.Kind == api.TJump {
				circles++
				if b.Term.To != *to {
					t.Fatalf("leads on: %d\n%sof\n%s", *to, short(g), short(f))
				}
			}
		}
	}
	for _, p := range append(slices.Clone(passes), dead.Unreach) {
		expectMade(t, "the pass once more", g, p(g), g)
	}
	return circles
}

// All functions of three blocks with all ends that they may have, with and without an Ins.
func TestAllThreeBlocks(t *testing.T) {
	terms := []api.RTerm{ret(0), jump(3), br(1, 0, -1)}
	for to := range 3 {
		terms = append(terms, jump(to))
		for other := range 3 {
			terms = append(terms, br(1, to, other))
		}
	}
	var n counts
	for k := range 30 * 30 * 30 {
		var l []api.RBlock
		for at := range 3 {
			b := block(terms[k%15])
			if k/15%2 == 1 {
				b = marked(at, b.Term)
			}
			l, k = append(l, b), k/30
		}
		n.expectRead(t, fn(1, 3, l...))
	}
	if n.turned < 20000 || n.jumps < 10000 || n.merged < 2000 || n.rounds < 2000 || n.circles < 5000 || n.gone < 20000 {
		t.Error(n)
	}
}

// All functions of four blocks that have ends alone.
func TestAllFourEnds(t *testing.T) {
	var terms []api.RTerm
	for to := range 4 {
		terms = append(terms, jump(to))
		for other := range to + 1 {
			terms = append(terms, br(1, to, other))
		}
	}
	terms = append(terms, ret(0))
	var n counts
	for k := range 15 * 15 * 15 * 15 {
		n.expectRead(t, fn(1, 3, ends(terms[k%15], terms[k/15%15], terms[k/225%15], terms[k/3375])...))
	}
	if n.turned < 50000 || n.jumps < 20000 || n.merged < 5000 || n.rounds < 10000 || n.circles < 30000 || n.gone < 50000 {
		t.Error(n)
	}
}

// All functions of up to five blocks that have jumps alone, or return, each with an Ins of its own: rows and circles in all orders.
func TestAllRows(t *testing.T) {
	var n counts
	for size := 1; size <= 5; size++ {
		for k := range int(math.Pow(float64(size+1), float64(size))) {
			f := fn(1, 9, make([]api.RBlock, size)...)
			for at := range size {
				f.Blocks[at] = marked(at, jump(k%(size+1)))
				if k%(size+1) == size {
					f.Blocks[at].Term = ret(at)
				}
				k /= size + 1
			}
			n.expectRead(t, f)
		}
	}
	if n.merged < 10000 || n.gone < 30000 || n.turned != 0 {
		t.Error(n)
	}
}

// someWays is a function of so many blocks, most of which only lead on, mostly to one of the next.
func someWays(r *rand.Rand, blocks int) api.RFn {
	f := fn(r.Intn(3), 4, make([]api.RBlock, blocks)...)
	reg := func() int { return r.Intn(4) }
	for n := range f.Blocks {
		b := &f.Blocks[n]
		for range max(0, r.Intn(6)-3) {
			b.Ins = append(b.Ins, code(out(reg()), mov(reg(), reg()), un(api.ONot, reg(), reg()), list(reg(), reg()), tick(1+n))[r.Intn(5)])
		}
		to := func() int {
			if r.Intn(7) == 0 {
				return r.Intn(blocks)
			}
			return min(n+1+r.Intn(3), blocks-1)
		}
		b.Term = []api.RTerm{jump(to()), jump(to()), jump(to()), br(reg(), to(), to()), br(reg(), to(), to()), ret(reg())}[r.Intn(6)]
	}
	if r.Intn(8) > 0 {
		f.Blocks[blocks-1].Term = ret(reg())
	}
	return f
}

// turnedAbout is f with its blocks, but for the first, in any order.
func turnedAbout(r *rand.Rand, f api.RFn) api.RFn {
	g, places := plain(f), append([]int{0}, r.Perm(len(f.Blocks))...)
	places = slices.DeleteFunc(places, func(n int) bool { return n == 0 })
	places = append([]int{0}, places...)
	for n, b := range f.Blocks {
		for _, to := range readTo(&b.Term) {
			*to = places[*to]
		}
		g.Blocks[places[n]] = b
	}
	return g
}

func TestManyWays(t *testing.T) {
	r := rand.New(rand.NewSource(163))
	var n counts
	for range 20000 {
		f := someWays(r, 1+r.Intn(12))
		n.expectRead(t, f)
		n.expectRead(t, turnedAbout(r, f))
	}
	for range 200 {
		n.expectRead(t, turnedAbout(r, someWays(r, 60+r.Intn(60))))
	}
	if n.turned < 50000 || n.jumps < 10000 || n.merged < 10000 || n.rounds < 2000 || n.circles < 200 || n.gone < 100000 {
		t.Error(n)
	}
}

func TestLikelyFunctions(t *testing.T) {
	r := rand.New(rand.NewSource(164))
	var n counts
	sound := 0
	for range 6000 {
		p := likely.Registers(r.Intn, 1+r.Intn(12))
		if sim.Check(p) == api.OK {
			sound++
		}
		for _, f := range p.Fns {
			n.expectRead(t, f)
		}
	}
	for range 100 {
		for _, f := range likely.Registers(r.Intn, 80).Fns {
			n.expectRead(t, f)
		}
	}
	if sound < 3000 || n.turned < 10000 || n.jumps < 5000 || n.merged < 2000 || n.gone < 20000 {
		t.Error(sound, n)
	}
}

// One thing is changed. What Check then refuses is read as it stands.
func TestBlemishedFunctions(t *testing.T) {
	r := rand.New(rand.NewSource(166))
	checked := map[api.Errno]int{}
	var n counts
	for range 15000 {
		p := likely.Registers(r.Intn, 6)
		if r.Intn(2) == 0 {
			p.Fns[0].Blocks = someWays(r, 1+r.Intn(9)).Blocks
		}
		likely.Blemish(r.Intn, &p)
		checked[sim.Check(p)]++
		for _, f := range p.Fns {
			n.expectRead(t, f)
		}
	}
	if checked[api.OK] < 300 || checked[api.ErrTick] < 100 || checked[api.ErrForm] < 8000 || n.turned < 20000 || n.jumps < 5000 || n.merged < 5000 || n.gone < 30000 {
		t.Error(checked, n)
	}
}

// seeds are bytes of functions: the chapter's example, a circle with a way into it, and a branch past one block.
func seeds() [][]byte {
	return [][]byte{
		{},
		{0, 1, 3, 1, 0, 1, 0, 0, 1, 0, 2, 0, 0, 3, 0, 0, 0, 0},
		{0, 1, 4, 1, 0, 3, 0, 0, 1, 0, 2, 0, 0, 1, 0, 1, 0, 0, 1, 0, 2, 0, 0},
		{1, 3, 4, 2, 0, 1, 2, 1, 6, 0, 0, 0, 0, 0, 0, 0, 0, 1, 0, 3, 0, 0, 1, 0, 1, 0, 0, 3, 0, 0, 0, 1, 6, 0, 1, 0, 0, 0, 0, 0, 0},
	}
}

func TestAnyBytes(t *testing.T) {
	r := rand.New(rand.NewSource(167))
	var n counts
	for range 40000 {
		n.expectRead(t, likely.Fn(likely.Stained(r.Intn, seeds()...)))
	}
	if n.turned < 20000 || n.jumps < 400 || n.merged < 20000 || n.rounds < 10 || n.circles < 5000 || n.gone < 50000 {
		t.Error(n)
	}
}

func FuzzThread(f *testing.F) {
	for _, b := range seeds() {
		f.Add(b)
	}
	f.Fuzz(func(t *testing.T, b []byte) {
		new(counts).expectRead(t, likely.Fn(b))
	})
}
