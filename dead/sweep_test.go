package dead_test

import (
	"math"
	"slices"
	"testing"

	"ratline/api"
	"ratline/dead"
	"ratline/live"
	"ratline/sim"
	"ratline/val"
)

// Promise 15.1: Sweep.

// pures are Ins of each Op that may be Pure, and that writes r and reads others.
func pures(r int) []api.RIns {
	return code(number(r), konst(r, val.Nil()), mov(r, 5), bin(api.OEq, r, 5, 6), bin(api.ONe, r, 6, 5), un(api.ONot, r, 5))
}

// others are Ins that are not Pure and write r: they may err, or tell something.
func others(r int) []api.RIns {
	l := code(call(1, r, 5), call(1, r), list(r, 5, 6), list(r))
	for op := range 22 {
		if op != api.OEq && op != api.ONe && op != api.ONot {
			l = append(l, bin(op, r, 5, 6), un(op, r, 5))
		}
	}
	return l
}

func TestSweepEachOp(t *testing.T) {
	for _, i := range pures(3) {
		expectBlock(t, dead.Sweep, block(ret(0), i), block(ret(0)))
		expectBlock(t, dead.Sweep, block(jump(0), i), block(jump(0)))
		expectSame(t, dead.Sweep, block(ret(3), i))
		expectSame(t, dead.Sweep, block(br(3, 0, 0), i))
		expectBlock(t, dead.Sweep, block(ret(3), i, number(3)), block(ret(3), number(3)))
		for _, j := range others(3) {
			expectBlock(t, dead.Sweep, block(ret(3), i, j), block(ret(3), j))
			expectSame(t, dead.Sweep, block(ret(0), j, i, out(3)))
		}
		for _, reader := range code(mov(0, 3), bin(api.OAdd, 1, 3, 2), bin(api.OEq, 0, 2, 3), un(api.ONeg, 1, 3), call(1, 1, 2, 3), out(3), list(1, 2, 3)) {
			expectSame(t, dead.Sweep, block(ret(0), i, reader))
			expectSame(t, dead.Sweep, block(ret(0), i, tick(1), reader, number(3), out(3)))
		}
	}
	// what is not Pure stays, whether it is needed or not
	for _, i := range append(others(3), out(3), tick(3)) {
		expectSame(t, dead.Sweep, block(ret(0), i))
		expectSame(t, dead.Sweep, block(ret(3), i))
		expectSame(t, dead.Sweep, block(ret(3), i, number(3)))
	}
}

func TestSweepRows(t *testing.T) {
	// one that is needless because another one is
	expectBlock(t, dead.Sweep, block(ret(0), number(1), mov(2, 1), un(api.ONot, 3, 2), bin(api.OEq, 4, 3, 1)), block(ret(0)))
	expectBlock(t, dead.Sweep, block(ret(2), number(1), mov(2, 1), un(api.ONot, 3, 2), bin(api.OEq, 4, 3, 1)), block(ret(2), number(1), mov(2, 1)))
	// but not by one that stays
	expectSame(t, dead.Sweep, block(ret(0), number(1), mov(2, 1), un(api.ONeg, 3, 2)))
	// written again ahead of each read; written, read, written
	expectBlock(t, dead.Sweep, block(ret(1), number(1), number(2), mov(1, 2), mov(2, 0)), block(ret(1), number(2), mov(1, 2)))
	expectSame(t, dead.Sweep, block(ret(1), number(1), out(1), number(1)))
	expectBlock(t, dead.Sweep, block(ret(1), number(1), number(1), number(1), out(1), number(1), number(1)), block(ret(1), number(1), out(1), number(1)))
	// an Ins that reads what it writes
	expectBlock(t, dead.Sweep, block(ret(0), number(1), un(api.ONot, 1, 1), bin(api.OEq, 1, 1, 1)), block(ret(0)))
	expectSame(t, dead.Sweep, block(ret(1), number(1), un(api.ONot, 1, 1), bin(api.OEq, 1, 1, 1)))
	expectBlock(t, dead.Sweep, block(ret(1), number(1), un(api.ONot, 1, 1), number(1)), block(ret(1), number(1)))
	// an RMov of a register to itself is as any other
	expectSame(t, dead.Sweep, block(ret(1), mov(1, 1)))
	expectBlock(t, dead.Sweep, block(ret(0), mov(1, 1), mov(1, 1)), block(ret(0)))
	// among what stays, Deep too
	expectBlock(t, dead.Sweep, block(ret(0), deep(1, number(1)), deep(2, tick(3)), deep(3, call(0, 4, 0)), deep(4, mov(5, 4)), deep(5, out(0))), block(ret(0), deep(2, tick(3)), deep(3, call(0, 4, 0)), deep(5, out(0))))
}

func TestSweepBranches(t *testing.T) {
	sides := func(a, b api.RBlock) api.RFn { return fn(0, 9, block(br(4, 1, 2), number(0)), a, b) }
	without := func(a, b api.RBlock) api.RFn { return fn(0, 9, block(br(4, 1, 2)), a, b) }
	for _, x := range []struct {
		a, b api.RBlock
		stay bool
	}{
		{block(ret(0)), block(ret(0)), true}, {block(ret(0)), block(ret(1)), true}, {block(ret(1)), block(ret(0)), true}, {block(ret(1)), block(ret(1)), false},
		{block(ret(0), tick(1), call(1, 0)), block(ret(1)), false}, {block(ret(0), list(0)), block(ret(0), bin(api.OAdd, 0, 2, 2)), false}, {block(ret(0), list(0)), block(ret(0), bin(api.OAdd, 0, 0, 2)), true},
		{block(ret(1), out(0)), block(ret(0), list(0)), true}, {block(jump(2)), block(ret(0)), true}, {block(jump(2), list(0)), block(ret(0)), true}, {block(jump(2), list(0)), block(ret(1)), false},
	} {
		f, want := sides(x.a, x.b), without(x.a, x.b)
		if x.stay {
			want = f
		}
		expect(t, dead.Sweep, f, want)
	}
	// what the branch reads is needed, and what that is made of
	f := fn(0, 9, block(br(4, 1, 1), number(3), un(api.ONot, 4, 3)), block(ret(1)))
	expect(t, dead.Sweep, f, f)
	// a row across blocks: each is needless because the next one is
	expect(t, dead.Sweep,
		fn(0, 9, block(br(0, 1, 2), number(1)), block(jump(2), mov(2, 1)), block(jump(3), un(api.ONot, 3, 2)), block(ret(0), mov(1, 3))),
		fn(0, 9, block(br(0, 1, 2)), block(jump(2)), block(jump(3)), block(ret(0))))
	expect(t, dead.Sweep,
		fn(0, 9, block(jump(3), number(1)), block(ret(0), mov(1, 3)), block(jump(1), un(api.ONot, 3, 2)), block(jump(2), mov(2, 1))),
		fn(0, 9, block(jump(3)), block(ret(0)), block(jump(1)), block(jump(2))))
}

func TestSweepLoops(t *testing.T) {
	loop := func(l ...api.RIns) api.RFn {
		return fn(0, 9, block(jump(1), number(1), number(2), number(3), number(4)), block(br(0, 1, 2), append(l, tick(1))...), block(ret(0)))
	}
	swept := func(first, l []api.RIns) api.RFn {
		return fn(0, 9, block(jump(1), first...), block(br(0, 1, 2), append(l, tick(1))...), block(ret(0)))
	}
	// needed in the next round alone
	expect(t, dead.Sweep, loop(out(1), mov(1, 2)), swept(code(number(1), number(2)), code(out(1), mov(1, 2))))
	expect(t, dead.Sweep, loop(mov(1, 2), out(1)), swept(code(number(2)), code(mov(1, 2), out(1))))
	// one round behind the other: 1 is not needed, so 2 is not, so 3 is not
	expect(t, dead.Sweep, loop(mov(1, 2), mov(2, 3), mov(3, 4), number(4)), swept(nil, nil))
	expect(t, dead.Sweep, loop(out(1), mov(1, 2), mov(2, 3), number(4)), swept(code(number(1), number(2), number(3)), code(out(1), mov(1, 2), mov(2, 3))))
	// what needs itself, or one another, in the next round is live all along, though nothing else needs it
	expect(t, dead.Sweep, loop(un(api.ONot, 1, 1)), swept(code(number(1)), code(un(api.ONot, 1, 1))))
	expect(t, dead.Sweep, loop(mov(1, 1)), swept(code(number(1)), code(mov(1, 1))))
	expect(t, dead.Sweep, loop(mov(3, 1), mov(1, 2), mov(2, 3)), swept(code(number(1), number(2)), code(mov(3, 1), mov(1, 2), mov(2, 3))))
	expect(t, dead.Sweep, loop(un(api.ONot, 1, 1), mov(3, 1)), swept(code(number(1)), code(un(api.ONot, 1, 1))))
	// but not if it is written anew in each round
	expect(t, dead.Sweep, loop(number(1), un(api.ONot, 1, 1)), swept(nil, nil))
	// block 0 is led to by others, and has an RMov that is needed in no round but the first
	expect(t, dead.Sweep,
		fn(1, 9, block(br(1, 0, 1), mov(1, 0), mov(2, 1), tick(1), mov(3, 2)), block(ret(0))),
		fn(1, 9, block(br(1, 0, 1), mov(1, 0), tick(1)), block(ret(0))))
	// a loop within a loop: 3 is needed by the inner one alone, 4 by neither
	expect(t, dead.Sweep,
		fn(0, 9, block(jump(1), number(3), number(4)), block(jump(2), mov(4, 3)), block(br(0, 2, 3), out(3), tick(1), un(api.ONot, 5, 4)), block(br(1, 1, 4), mov(6, 5), tick(2)), block(ret(0), mov(7, 6))),
		fn(0, 9, block(jump(1), number(3)), block(jump(2)), block(br(0, 2, 3), out(3), tick(1)), block(br(1, 1, 4), tick(2)), block(ret(0))))
}

// What is not come to is swept as all else; what it reads is not needed by what does not lead to it.
func TestSweepOfWhatIsNotComeTo(t *testing.T) {
	expect(t, dead.Sweep,
		fn(0, 9, block(ret(0), number(1)), block(jump(2), number(1), number(2), number(3)), block(jump(3), out(1), mov(4, 2)), block(ret(0), mov(5, 4), un(api.ONot, 3, 3))),
		fn(0, 9, block(ret(0)), block(jump(2), number(1)), block(jump(3), out(1)), block(ret(0))))
	expect(t, dead.Sweep,
		fn(0, 9, block(ret(0)), block(ret(0), mov(5, 4)), block(jump(1), mov(4, 3)), block(jump(2), mov(3, 2)), block(br(1, 3, 0), number(2))),
		fn(0, 9, block(ret(0)), block(ret(0)), block(jump(1)), block(jump(2)), block(br(1, 3, 0))))
}

// An Op that is none, and an end that is none, read nothing and write nothing; a number that no register has is not live.
func TestSweepOfWhatIsNone(t *testing.T) {
	for _, op := range []int{math.MinInt, -1, 0, 9, 32, 99, 1<<32 + api.RMov, math.MaxInt} {
		odd := api.RIns{Op: op, D: 1, A: 2, B: 3, N: api.OEq, L: []int{4}}
		expectBlock(t, dead.Sweep, block(ret(1), number(2), number(3), number(4), number(1), odd), block(ret(1), number(1), odd))
	}
	for _, kind := range []int{math.MinInt, -1, 0, api.TJump, 4, 99, 1<<32 + api.TRet, math.MaxInt} {
		end := api.RTerm{Kind: kind, A: 1, To: 7, Else: 7}
		expectBlock(t, dead.Sweep, block(end, number(1)), block(end))
	}
	for _, r := range []int{-1, -2, -64, -65, 200, 201, 256, 1 << 32, 1 << 40, math.MinInt, math.MaxInt} {
		for _, i := range pures(r) {
			expectBlock(t, dead.Sweep, block(ret(r), i, out(r), list(r, r)), block(ret(r), out(r), list(r, r)))
		}
		expectBlock(t, dead.Sweep, block(br(r, 1, 0), mov(0, r), bin(api.OEq, 1, 0, r), mov(2, r), out(2)), block(br(r, 1, 0), mov(2, r), out(2)))
	}
	// beyond Regs there may be more, and such are needed as others
	for _, r := range []int{9, 63, 64, 128, 199} {
		expectSame(t, dead.Sweep, block(ret(r), number(r)))
		expectBlock(t, dead.Sweep, block(ret(0), number(r), mov(2, r)), block(ret(0)))
	}
	// ops that Check refuses: Pure looks at the op alone
	expectBlock(t, dead.Sweep, block(ret(0), un(api.OEq, 1, 2), bin(api.ONot, 1, 2, 2), un(99, 1, 2)), block(ret(0), un(99, 1, 2)))
	for _, n := range []int{math.MinInt, -1, 2, 77, math.MaxInt} {
		expect(t, dead.Sweep, fn(0, 9, block(br(0, n, 1), number(1), number(2)), block(ret(1))), fn(0, 9, block(br(0, n, 1), number(1)), block(ret(1))))
		expect(t, dead.Sweep, fn(0, 9, block(jump(n), number(1)), block(ret(1))), fn(0, 9, block(jump(n)), block(ret(1))))
	}
}

// Promise 15.1: Run.

// Each of the three does something that another one leads to.
func TestRun(t *testing.T) {
	// a copy is read where it comes from, so that it is needless
	expectBlock(t, dead.Run, block(br(3, 0, 0), mov(1, 0), mov(2, 1), mov(3, 2), list(4, 1, 2), tick(1)), block(br(0, 0, 0), list(4, 0, 0), tick(1)))
	// what was needed by a block that is not come to is needless
	expect(t, dead.Run,
		fn(0, 9, block(jump(3), number(1)), block(jump(2), number(2)), block(ret(1), out(2)), block(br(0, 4, 4), mov(3, 1), out(3)), block(ret(3), mov(4, 3)), block(jump(4))),
		fn(0, 9, block(jump(1), number(1)), block(br(0, 2, 2), mov(3, 1), out(1)), block(ret(3))))
	// what is a copy across blocks stays
	f := fn(0, 9, block(jump(1), mov(1, 0)), block(ret(1), out(1)))
	expect(t, dead.Run, f, f)
	// all of Regs are parameters
	expect(t, dead.Run, fn(8, 8, block(ret(7), mov(0, 7), mov(7, 0), bin(api.OEq, 3, 0, 7))), fn(8, 8, block(ret(7), mov(7, 7))))
	expect(t, dead.Run, fn(0, 1, block(ret(0), mov(0, 0), tick(1), call(0, 0))), fn(0, 1, block(ret(0), tick(1), call(0, 0))))
}

// The passes stand in this order: in each other one more would be left.
func TestRunInOrder(t *testing.T) {
	f := fn(0, 9, block(jump(2), mov(1, 0), number(3)), block(ret(3), out(3)), block(ret(5), mov(4, 0), mov(5, 4)))
	got := sim.Size(dead.Run(f))
	if want := sim.Size(dead.Sweep(dead.Unreach(dead.Copies(f)))); got != want || got != 2 {
		t.Error(got, want)
	}
	if n := sim.Size(dead.Copies(dead.Unreach(dead.Sweep(f)))); n <= got {
		t.Error(n)
	}
}

// All 200 registers, each of them needed or not.
func TestSweepOfAllRegisters(t *testing.T) {
	for r := range 200 {
		f := fn(0, 200, block(jump(1), upTo200(number)...), block(ret(r), tick(1)))
		expect(t, dead.Sweep, f, fn(0, 200, block(jump(1), number(r)), block(ret(r), tick(1))))
		rest := slices.Delete(upTo200(out), r, r+1)
		f.Blocks[1] = block(ret((r+1)%200), rest...)
		expect(t, dead.Sweep, f, fn(0, 200, block(jump(1), slices.Delete(upTo200(number), r, r+1)...), block(ret((r+1)%200), rest...)))
	}
}

// upTo200 has one Ins of each register.
func upTo200(make func(r int) api.RIns) []api.RIns {
	var l []api.RIns
	for r := range 200 {
		l = append(l, make(r))
	}
	return l
}

// What Sweep leaves is what live finds needed.
func TestSweepIsWhatLiveTells(t *testing.T) {
	f := fn(0, 9, block(br(1, 1, 2), number(1), number(2), mov(3, 2)), block(jump(2), mov(4, 3), mov(3, 4), tick(1)), block(br(3, 1, 3), un(api.ONot, 5, 3)), block(ret(5), mov(6, 5)))
	g := dead.Sweep(f)
	for n, b := range g.Blocks {
		for k, l := range live.At(g, n)[1:] {
			if i := b.Ins[k]; live.Pure(i) && !slices.Contains(l, i.D) {
				t.Error(n, i)
			}
		}
	}
	if sim.Size(g) != sim.Size(f)-1 {
		t.Error(g)
	}
}
