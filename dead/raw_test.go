package dead_test

import (
	"math/rand"
	"reflect"
	"slices"
	"testing"

	"ratline/api"
	"ratline/dead"
	"ratline/hand"
	"ratline/likely"
	"ratline/live"
	"ratline/sim"
	"ratline/val"
)

// Promise 15.3, W9, W10: every call ends and none panics, whatever it is given.

func TestRawFunctions(t *testing.T) {
	r := rand.New(rand.NewSource(157))
	var n counts
	for range 15000 {
		n.expectRead(t, likely.Raw(r.Intn))
	}
	if n.told < 2000 || n.left < 10000 || n.swept < 20000 || n.needed < 20000 {
		t.Error(n)
	}
}

// A K that is not Ok is nil, as everywhere.
func TestValuesThatAreNotOk(t *testing.T) {
	for _, v := range likely.OddValues() {
		want := val.Copy(v)
		for _, p := range passes {
			expectBlock(t, p, block(ret(1), konst(1, v), out(1)), block(ret(1), konst(1, want), out(1)))
		}
	}
}

// isSound asks that a function that is made great is still one that may be.
func isSound(t *testing.T, f api.RFn) {
	t.Helper()
	if e := sim.Check(api.RProg{Fns: []api.RFn{f, fn(0, 1, block(ret(0)))}, Main: 1}); e != api.OK {
		t.Fatal(e)
	}
}

// rowOf has 2,000 blocks, of which the one that is come to next stands step behind; the last one has another end.
func rowOf(step int, code func(k int) []api.RIns, last api.RTerm) api.RFn {
	return fn(1, 200, hand.Row(2000, step, func(k, next int) api.RBlock {
		if k == 1999 {
			return block(last, code(k)...)
		}
		return block(jump(next), code(k)...)
	})...)
}

// Of 2,000 blocks each makes what the next one needs, ahead, back and across; what the last one needs tells how many of them are needed.
func TestLongRows(t *testing.T) {
	move := func(k int) api.RIns { return mov((k+1)%199, k%199) }
	turn := func(k int) api.RIns { return un(api.ONot, 199, (k+1)%199) }
	movesUpTo := func(last int) func(int) []api.RIns {
		return func(k int) []api.RIns {
			if k > last {
				return nil
			}
			return code(move(k))
		}
	}
	all := func(k int) []api.RIns { return code(move(k), turn(k)) }
	for _, step := range []int{1, 1999, 7} {
		isSound(t, rowOf(step, all, ret(0)))
		for _, r := range []int{10, 9, 11, 50, 197, 198} {
			last := slices.IndexFunc(hand.Upto(2000), func(k int) bool { return k > 1999-199 && (k+1)%199 == r }) // the last that writes r
			expect(t, dead.Sweep, rowOf(step, all, ret(r)), rowOf(step, movesUpTo(last), ret(r)))
		}
		expect(t, dead.Sweep, rowOf(step, movesUpTo(1999), ret(199)), rowOf(step, movesUpTo(-1), ret(199)))
		expect(t, dead.Sweep, rowOf(step, all, ret(199)), rowOf(step, func(k int) []api.RIns { return all(k)[:1+k/1999] }, ret(199)))
	}
}

// In a ring of 2,000 blocks each of 200 registers takes the next one's value of the round before: they become needless one after the other, if nobody needs the first.
func TestLongRing(t *testing.T) {
	for _, step := range []int{1, 1999, 7} {
		ring := func(k int) []api.RIns {
			if k%10 != 0 {
				return nil
			}
			return code(tick(1), mov(k/10, (k/10+1)%200))
		}
		ticks := func(k int) []api.RIns { return ring(k)[:min(1, len(ring(k)))] }
		first := jump(0)
		// all of them in a circle need one another
		isSound(t, rowOf(step, ring, first))
		expect(t, dead.Run, rowOf(step, ring, first), rowOf(step, ring, first))
		// the circle is broken
		broken := func(k int) []api.RIns {
			if k == 1990 {
				return code(tick(1), number(199))
			}
			return ring(k)
		}
		expect(t, dead.Run, rowOf(step, broken, first), rowOf(step, ticks, first))
		// the 100th is needed, and those that it takes its value from
		half := func(ahead func(k int) []api.RIns) func(k int) []api.RIns {
			return func(k int) []api.RIns {
				if k == 5 {
					return code(out(100))
				}
				if k < 1000 {
					return ahead(k)
				}
				return broken(k)
			}
		}
		expect(t, dead.Run, rowOf(step, half(ring), first), rowOf(step, half(ticks), first))
	}
}

// literalSweep takes out all that is needless at once, and then again, by what live tells.
func literalSweep(f api.RFn) (api.RFn, int) {
	for rounds := 0; ; rounds++ {
		g, behind := plain(f), live.Out(f)
		for n, b := range f.Blocks {
			l := map[int]int{}
			note := func(regs []int) {
				for _, r := range regs {
					l[r] = 1
				}
			}
			note(behind[n])
			note(live.Ends(b.Term))
			for k, i := range slices.Backward(b.Ins) {
				if live.Pure(i) && l[i.D] == 0 {
					g.Blocks[n].Ins = slices.Delete(g.Blocks[n].Ins, k, k+1)
				}
				delete(l, live.Def(i))
				note(live.Uses(i))
			}
		}
		if countIns(g) == countIns(f) {
			return f, rounds
		}
		f = g
	}
}

// Branches across 2,000 blocks and 200 registers.
func TestManyBranches(t *testing.T) {
	r := rand.New(rand.NewSource(158))
	rounds, swept, left := 0, 0, 0
	for range 12 {
		f := fn(8, 200, make([]api.RBlock, 2000)...)
		reg := func() int { return r.Intn(200) }
		for n := range f.Blocks {
			f.Blocks[n] = block(br(reg(), r.Intn(2000), r.Intn(2000)), tick(1), mov(reg(), reg()), mov(reg(), reg()), un(api.ONot, reg(), reg()), number(reg()))
			switch r.Intn(12) {
			case 0:
				f.Blocks[n].Term = ret(reg())
			case 1, 2, 3, 4, 5, 6, 7, 8, 9:
				f.Blocks[n].Term = jump(r.Intn(2000))
			}
		}
		isSound(t, f)
		want, n := literalSweep(f)
		expectMade(t, "Sweep", f, dead.Sweep(f), want)
		g := dead.Run(f)
		want, _ = literalSweep(dead.Unreach(dead.Copies(f)))
		expectMade(t, "Run", f, g, want)
		if l := readReached(g); len(l) != len(g.Blocks) {
			t.Fatal(len(l), len(g.Blocks))
		}
		rounds += n
		swept += countIns(f) - countIns(dead.Sweep(f))
		left += len(f.Blocks) - len(g.Blocks)
	}
	if rounds < 24 || swept < 10000 || left < 2000 {
		t.Error(rounds, swept, left)
	}
}

// The longest block that there is: a row of copies, which comes back to 0 each time that it has gone through all registers; and one of which all is needed.
func TestLongestBlock(t *testing.T) {
	var l, told []api.RIns
	for k := range 13998 {
		l = append(l, mov((k+1)%200, k%200))
		told = append(told, mov((k+1)%200, 0))
	}
	f := fn(0, 200, block(ret(198), append(l, un(api.ONot, 199, 99))...))
	isSound(t, f)
	expect(t, dead.Copies, f, fn(0, 200, block(ret(0), append(told, un(api.ONot, 199, 0))...)))
	expect(t, dead.Sweep, f, fn(0, 200, block(ret(198), l...)))
	expect(t, dead.Run, f, fn(0, 200, block(ret(0), slices.Repeat(code(mov(0, 0)), 69)...)))
	f.Blocks[0].Ins = slices.Repeat(code(list(1, 1, 1)), 13999/3)
	isSound(t, f)
	expect(t, dead.Run, f, f)
}

// What is far longer than may be ends too.
func TestTooLong(t *testing.T) {
	const many = 1 << 16
	long := list(3, slices.Repeat([]int{1}, 1<<22)...)
	g := dead.Run(fn(0, 4, block(ret(3), mov(1, 0), long)))
	if l := g.Blocks[0].Ins; len(l) != 1 || len(l[0].L) != 1<<22 || l[0].L[1<<21] != 0 {
		t.Error(len(l))
	}
	// copies of one register, which is written ahead of each read
	var l []api.RIns
	for k := range many {
		l = append(l, mov(k+2, 1), number(1), out(k+2))
	}
	if g := dead.Copies(fn(0, 4, block(ret(3), l...))); len(g.Blocks[0].Ins) != 3*many || g.Blocks[0].Ins[3*many-1].A != many+1 {
		t.Error(len(g.Blocks[0].Ins))
	}
	// all of them at once
	l = nil
	for k := range many {
		l = append(l, mov(k+2, 1))
	}
	for range many {
		l = append(l, un(api.ONot, 0, many+1), number(1))
	}
	if g := dead.Copies(fn(0, 4, block(ret(3), l...))); g.Blocks[0].Ins[many].A != 1 || g.Blocks[0].Ins[many+2].A != many+1 {
		t.Error(g.Blocks[0].Ins[many], g.Blocks[0].Ins[many+2])
	}
	// each makes what the next one needs
	f := fn(1, 3, make([]api.RBlock, many/8)...)
	for n := range f.Blocks {
		f.Blocks[n] = block(jump(n+1), mov((n+1)%200, n%200))
	}
	if g := dead.Run(f); len(g.Blocks) != many/8 || countIns(g) != 0 || g.Blocks[many/8-1].Term != jump(many/8) {
		t.Error(len(g.Blocks), countIns(g))
	}
	f.Blocks = make([]api.RBlock, many)
	for n := range f.Blocks {
		f.Blocks[n] = block(br(n%3, (n+1)%many, n*n%many), mov((n+1)%3, 2))
	}
	if g := dead.Run(f); len(g.Blocks) != many {
		t.Error(len(g.Blocks))
	}
}

// Rules 3 and 8: what is handed in is not changed, nor kept; what is answered is new memory; the same call answers the same.

var passes = []pass{dead.Copies, dead.Unreach, dead.Sweep, dead.Run}

// some is a function in which each pass has something to do, with lists within lists.
func some() api.RFn {
	l, _ := val.Read(`[1, ["a", [2]], []]`)
	return fn(1, 6,
		block(br(2, 1, 3), konst(1, l), mov(2, 1), konst(4, l), list(3, 2, 1, 2), out(2), konst(4, l), konst(5, l)),
		block(jump(3), mov(1, 0), tick(1), call(0, 5, 1, 2, 1), list(0, 5, 1)),
		block(ret(4), mov(4, 1), bin(api.OAdd, 3, 4, 4), list(2, 4, 4)),
		block(br(4, 0, 1), konst(5, l), mov(5, 4), konst(4, l), tick(1), list(4, 5, 3)))
}

func TestMemory(t *testing.T) {
	r := rand.New(rand.NewSource(159))
	fns := []api.RFn{some()}
	for range 1000 {
		fns = append(fns, likely.Registers(r.Intn, 7).Fns...)
		fns = append(fns, someMoves(r, 5, 4))
	}
	for _, f := range fns {
		if s := hand.Touched(f, reflect.DeepEqual, passes...); s != "" {
			t.Fatal(s, short(f))
		}
	}
}

// The same call answers the same, whoever else calls, and whatever room stands behind its lists.
func TestTheSameIsAnswered(t *testing.T) {
	r := rand.New(rand.NewSource(160))
	for range 300 {
		f := []api.RFn{likely.Registers(r.Intn, 7).Fns[0], someMoves(r, 6, 5)}[r.Intn(2)]
		if hand.Unlike(f, reflect.DeepEqual, passes...) {
			t.Error(short(f))
		}
	}
}
