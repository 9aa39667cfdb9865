package thread_test

import (
	"math/rand"
	"reflect"
	"slices"
	"testing"

	"ratline/api"
	"ratline/hand"
	"ratline/likely"
	"ratline/sim"
	"ratline/thread"
	"ratline/val"
)

// Promise 16.3, W9, W10: every call ends and none panics, whatever it is given.

func TestRawFunctions(t *testing.T) {
	r := rand.New(rand.NewSource(170))
	var n counts
	for range 15000 {
		f := likely.Raw(r.Intn)
		for k := range f.Blocks { // else hardly any only leads on
			if b := &f.Blocks[k]; r.Intn(3) == 0 {
				b.Ins, b.Term.Kind, b.Term.To = nil, api.TJump, r.Intn(len(f.Blocks))
			}
		}
		n.expectRead(t, f)
	}
	if n.turned < 4000 || n.jumps < 1000 || n.merged < 2000 || n.rounds < 20 || n.circles < 2000 || n.gone < 10000 {
		t.Error(n)
	}
}

// A K that is not Ok is nil, as everywhere.
func TestValuesThatAreNotOk(t *testing.T) {
	for _, v := range likely.OddValues() {
		f := fn(0, 9, block(ret(1), hand.Const(1, v), out(1)))
		for _, p := range passes {
			expectMade(t, "the pass", f, p(f), fn(0, 9, block(ret(1), hand.Const(1, val.Copy(v)), out(1))))
		}
		f.Blocks = []api.RBlock{block(jump(1), hand.Const(1, v)), block(ret(1), hand.Const(2, v))}
		expectMade(t, "Merge", f, thread.Merge(f), fn(0, 9, block(ret(1), hand.Const(1, val.Copy(v)), hand.Const(2, val.Copy(v)))))
	}
}

// isSound asks that a function that is made great is still one that may be.
func isSound(t *testing.T, f api.RFn) {
	t.Helper()
	if e := sim.Check(api.RProg{Fns: []api.RFn{f, fn(0, 1, block(ret(0)))}, Main: 1}); e != api.OK {
		t.Fatal(e)
	}
}

const most = api.MaxBlocks

// steps are how far behind a block the next one may stand, so that a way through all of them passes each once.
func steps() []int { return []int{1, most - 1, 7, 1001} }

// Of 2,000 blocks all but the last one only lead on, or are branches to one place, in order and out of it.
func TestLongChains(t *testing.T) {
	for _, step := range steps() {
		last := (most - 1) * step % most
		for every := range 4 { // how often there is a branch
			f := fn(1, 9, hand.Row(most, step, func(k, next int) api.RBlock {
				switch {
				case k == most-1:
					return block(ret(7))
				case every > 0 && k%every == 0:
					return block(br(0, next, next))
				}
				return block(jump(next))
			})...)
			isSound(t, f)
			expectMade(t, "Run", f, thread.Run(f), fn(1, 9, block(ret(7))))
			if every > 0 {
				continue
			}
			want := plain(f)
			for n := range f.Blocks {
				if got := thread.Final(f, n); got != last {
					t.Fatal(n, got)
				}
				if n != last {
					want.Blocks[n].Term = jump(last)
				}
			}
			expectMade(t, "Ends", f, thread.Ends(f), want)
			expectMade(t, "Merge", f, thread.Merge(f), fn(1, 9, block(ret(7))))
		}
	}
}

// Of 2,000 blocks each is a branch to the next two, which is a jump only when they are: one more each time.
func TestLongCascade(t *testing.T) {
	for _, step := range steps() {
		f := fn(1, 9, hand.Row(most, step, func(k, next int) api.RBlock {
			switch k {
			case most - 1:
				return block(ret(7))
			case most - 2:
				return block(jump(next))
			}
			return block(br(0, next, (next+step)%most))
		})...)
		isSound(t, f)
		expectMade(t, "Run", f, thread.Run(f), fn(1, 9, block(ret(7))))
	}
}

// 2,000 blocks that only lead on, in a circle; the first one may stand outside, and lead in.
func TestLongCircles(t *testing.T) {
	for _, step := range steps() {
		f := fn(1, 9, hand.Row(most, step, func(_, next int) api.RBlock { return block(jump(next)) })...)
		expectMade(t, "Run", f, thread.Run(f), fn(1, 9, block(jump(0))))
		expectMade(t, "Ends", f, thread.Ends(f), fn(1, 9, slices.Repeat(ends(jump(0)), most)...))
		expectMade(t, "Merge", f, thread.Merge(f), fn(1, 9, block(jump(0))))
		circle := hand.Row(most-1, step%(most-2)+1, func(_, next int) api.RBlock { return block(jump(next + 1)) })
		f = fn(1, 9, append([]api.RBlock{marked(3, jump(1500))}, circle...)...)
		expectMade(t, "Run", f, thread.Run(f), fn(1, 9, marked(3, jump(1)), block(jump(1))))
		expectMade(t, "Ends", f, thread.Ends(f), fn(1, 9, append([]api.RBlock{marked(3, jump(1))}, slices.Repeat(ends(jump(1)), most-1)...)...))
		f.Blocks[0] = marked(3, ret(0))
		expectMade(t, "Merge", f, thread.Merge(f), fn(1, 9, marked(3, ret(0)), block(jump(1))))
	}
}

// 2,000 blocks to each of which the one ahead of it alone leads, in order and out of it, are one; in a circle too, whether it is come to or not.
func TestLongRows(t *testing.T) {
	var all []int
	for k := range most {
		all = append(all, k%200)
	}
	for _, step := range steps() {
		f := fn(1, 200, hand.Row(most, step, func(k, next int) api.RBlock {
			if k == most-1 {
				return marked(k%200, br(7, 0, 0))
			}
			return marked(k%200, jump(next))
		})...)
		want := fn(1, 200, row(br(7, 0, 0), all...))
		expectMade(t, "Merge", f, thread.Merge(f), want)
		want.Blocks[0].Term = jump(0)
		expectMade(t, "Run", f, thread.Run(f), want)
		f.Blocks[(most-1)*step%most].Term = ret(7)
		isSound(t, f)
		want.Blocks[0].Term = ret(7)
		expectMade(t, "Merge", f, thread.Merge(f), want)
		expectMade(t, "Run", f, thread.Run(f), want)
		// the circle stands behind the first block, which leads in, or does not
		circle := hand.Row(most-1, step%(most-2)+1, func(k, next int) api.RBlock { return marked(k%200, jump(next+1)) })
		f = fn(1, 200, append([]api.RBlock{marked(3, ret(0))}, circle...)...)
		want = fn(1, 200, marked(3, ret(0)), row(jump(1), all[:most-1]...))
		expectMade(t, "Merge", f, thread.Merge(f), want)
		expectMade(t, "Run", f, thread.Run(f), fn(1, 200, marked(3, ret(0))))
		f.Blocks[0].Term, want.Blocks[0].Term = jump(1), jump(1)
		expectMade(t, "Merge", f, thread.Merge(f), want)
		expectMade(t, "Run", f, thread.Run(f), want)
	}
}

// Pairs, each of which is come to from all sides: half of 2,000 blocks are left, in the order of their first ones, wherever the second ones stood.
func TestManyPairs(t *testing.T) {
	const pairs = most / 2
	want := fn(1, 200, make([]api.RBlock, pairs)...)
	for k := range pairs {
		want.Blocks[k] = block(br(k%200, (k+1)%pairs, 0), out(k%200), tick(1))
	}
	for _, x := range []struct{ first, second func(k int) int }{
		{func(k int) int { return 2 * k }, func(k int) int { return 2*k + 1 }},
		{func(k int) int { return k }, func(k int) int { return pairs + k }},
		{func(k int) int { return k }, func(k int) int { return most - 1 - k }},
		{func(k int) int { return k + min(k, 1)*pairs }, func(k int) int { return k + 1 }},
		{func(k int) int { return k + min(k, 1)*pairs }, func(k int) int { return pairs - k }},
	} {
		f := fn(1, 200, make([]api.RBlock, most)...)
		for k := range pairs {
			f.Blocks[x.first(k)] = marked(k%200, jump(x.second(k)))
			f.Blocks[x.second(k)] = block(br(k%200, x.first((k+1)%pairs), 0), tick(1))
		}
		isSound(t, f)
		turned := plain(want)
		turned.Blocks[pairs-1].Term = jump(0)
		expectMade(t, "Merge", f, thread.Merge(f), want)
		expectMade(t, "Run", f, thread.Run(f), turned)
	}
}

// Branches and jumps across 2,000 blocks.
func TestManyBlocks(t *testing.T) {
	r := rand.New(rand.NewSource(171))
	var n counts
	for range 3 {
		n.expectRead(t, turnedAbout(r, someWays(r, most)))
		f := someWays(r, most)
		for k := range f.Blocks {
			f.Blocks[k].Term.To, f.Blocks[k].Term.Else = r.Intn(most), r.Intn(most)
		}
		n.expectRead(t, f)
	}
	if n.turned < 3000 || n.jumps < 100 || n.merged < 1000 || n.gone < 5000 {
		t.Error(n)
	}
}

// The longest blocks that there are stand behind one another.
func TestLongestBlocks(t *testing.T) {
	half := make([]int, 6999)
	for k := range half {
		half[k] = k % 200
	}
	f := fn(0, 200, row(jump(1), half...), row(ret(3), half...))
	isSound(t, f)
	expectMade(t, "Run", f, thread.Run(f), fn(0, 200, row(ret(3), append(half, half...)...)))
}

// What is far longer than may be ends too.
func TestTooLong(t *testing.T) {
	const many = 1 << 16
	for _, step := range []int{1, many - 1, 77777} {
		chain := fn(1, 9, hand.Row(many, step, func(_, next int) api.RBlock { return block(jump(next)) })...)
		if g := thread.Run(chain); thread.Final(chain, 5) != 0 || len(g.Blocks) != 1 || g.Blocks[0].Term != jump(0) {
			t.Error(step, len(g.Blocks))
		}
		rows := fn(1, 9, hand.Row(many, step, func(k, next int) api.RBlock { return marked(k, jump(next)) })...)
		if g := thread.Run(rows); len(g.Blocks) != 1 || len(g.Blocks[0].Ins) != many || g.Blocks[0].Ins[many-1].A != many-1 || g.Blocks[0].Term != jump(0) {
			t.Error(step, len(g.Blocks))
		}
	}
	// a row from the last block back to the second
	f := fn(1, 9, make([]api.RBlock, many)...)
	for n := range f.Blocks {
		f.Blocks[n] = marked(n, jump(n-1))
	}
	f.Blocks[0].Term, f.Blocks[1].Term = br(0, many-1, 0), ret(1)
	if g := thread.Run(f); len(g.Blocks) != 2 || len(g.Blocks[1].Ins) != many-1 || g.Blocks[1].Ins[1].A != many-2 || g.Blocks[1].Term != ret(1) {
		t.Error(len(g.Blocks))
	}
	for n := range f.Blocks {
		f.Blocks[n] = block(br(n%3, (n+1)%many, n*n%many), tick(1))
	}
	if g := thread.Run(f); len(g.Blocks) != many {
		t.Error(len(g.Blocks))
	}
	long := list(3, make([]int, 1<<22)...)
	if g := thread.Run(fn(1, 9, block(jump(1), long), block(ret(0), long))); len(g.Blocks) != 1 || len(g.Blocks[0].Ins[1].L) != 1<<22 {
		t.Error(len(g.Blocks))
	}
}

// Rules 3 and 8: what is handed in is not changed, nor kept; what is answered is new memory; the same call answers the same.

// finals tells Finals as a function.
func finals(f api.RFn) api.RFn {
	return api.RFn{Params: thread.Final(f, 0), Regs: thread.Final(f, len(f.Blocks)/2)}
}

func all() []pass { return append(slices.Clone(passes), finals) }

// some is a function in which each pass has something to do, with lists within lists.
func some() api.RFn {
	l, _ := val.Read(`[1, ["a", [2]], []]`)
	return fn(1, 6,
		block(br(2, 1, 3), hand.Const(1, l), list(3, 2, 1, 2)),
		block(jump(2), mov(1, 0), hand.Const(4, l)),
		block(jump(5), hand.Const(1, l), list(0, 5, 1), call(0, 5, 1, 2, 1)),
		block(jump(4)),
		block(br(1, 6, 7)),
		block(br(1, 0, 3), list(4, 5, 3), hand.Const(2, l)),
		block(jump(7), list(2, 1)),
		block(ret(2), hand.Const(3, l), list(1, 1)))
}

func TestMemory(t *testing.T) {
	r := rand.New(rand.NewSource(172))
	fns := []api.RFn{some()}
	for range 1000 {
		fns = append(fns, likely.Registers(r.Intn, 9).Fns...)
		fns = append(fns, someWays(r, 1+r.Intn(9)))
	}
	for _, f := range fns {
		if s := hand.Touched(f, reflect.DeepEqual, all()...); s != "" {
			t.Fatal(s, short(f))
		}
	}
}

func TestTheSameIsAnswered(t *testing.T) {
	r := rand.New(rand.NewSource(173))
	for range 300 {
		f := []api.RFn{likely.Registers(r.Intn, 9).Fns[0], someWays(r, 1+r.Intn(9))}[r.Intn(2)]
		if hand.Unlike(f, reflect.DeepEqual, all()...) {
			t.Error(short(f))
		}
	}
}
