package color_test

import (
	"fmt"
	"math"
	"testing"

	"ratline/api"
	"ratline/color"
	"ratline/hand"
	"ratline/val"
)

var (
	mov, bin, un, call, list = hand.Mov, hand.Bin, hand.Un, hand.Call, hand.List
	out, tick, jump, br, ret = hand.Out, hand.Tick, hand.Jump, hand.Br, hand.Ret
	block, fn                = hand.Block, hand.Fn
)

func konst(d int) api.RIns { return hand.Const(d, val.Int(7)) }

// short is what is told of a thing that may be great.
func short(x any) string {
	s := fmt.Sprint(x)
	if len(s) > 900 {
		s = s[:900] + " .."
	}
	return s
}

// Promise 18.1: Positions, Intervals, Overlap, told here by hand.

// expect asks for the Intervals of a function, and that the second reading tells them too.
func expect(t *testing.T, f api.RFn, want string) {
	t.Helper()
	if s := fmt.Sprint(color.Intervals(f)); s != want {
		t.Errorf("Intervals of %s: %s, want %s", short(f), short(s), short(want))
	}
	new(counts).expectRead(t, f)
}

func TestPositions(t *testing.T) {
	for _, x := range []struct {
		f    api.RFn
		want string
	}{
		{api.RFn{}, "[]"},
		{api.RFn{Params: 3, Regs: 9, Blocks: []api.RBlock{}}, "[]"},
		{fn(0, 1, block(ret(0))), "[1]"},
		{fn(0, 1, block(ret(0), konst(0), out(0))), "[1]"},
		{fn(0, 1, block(jump(1)), block(jump(2)), block(ret(0))), "[1 2 3]"},
		{fn(0, 1, block(jump(1), konst(0)), block(jump(2)), block(jump(3), konst(0), out(0)), block(ret(0), out(0))), "[1 3 4 7]"},
		// blocks one after the other as they stand, come to or not
		{fn(0, 1, block(jump(2), konst(0)), block(ret(0), out(0), out(0)), block(jump(1), tick(1))), "[1 3 6]"},
		// what is no Ins and no end takes one too
		{fn(0, 1, block(api.RTerm{}, api.RIns{}, api.RIns{Op: -1}), block(api.RTerm{Kind: 9}, api.RIns{Op: 99}), block(api.RTerm{Kind: -1})), "[1 4 6]"},
	} {
		if s := fmt.Sprint(color.Positions(x.f)); s != x.want {
			t.Errorf("Positions of %s: %s, want %s", short(x.f), s, x.want)
		}
	}
}

// A register is there from where it is written up to where it is read last, both counted.
func TestLines(t *testing.T) {
	expect(t, fn(0, 1, block(ret(0))), "[{0 1 1}]")
	expect(t, fn(0, 2, block(ret(1), mov(1, 0))), "[{0 1 1} {1 1 2}]")
	expect(t, fn(0, 2, block(ret(0), konst(0))), "[{0 1 2}]")
	// written, and read by nobody
	expect(t, fn(0, 2, block(ret(0), konst(0), konst(1), out(0))), "[{0 1 4} {1 2 2}]")
	// read, and written by nobody: it is nil from the beginning on
	expect(t, fn(0, 3, block(ret(0), konst(0), out(0), out(2))), "[{0 1 4} {2 1 3}]")
	// written twice, needed twice: all between counts too
	expect(t, fn(0, 2, block(ret(1), konst(0), out(0), konst(1), konst(0))), "[{0 1 4} {1 3 5}]")
	expect(t, fn(0, 2, block(ret(1), out(0), konst(1), konst(0), out(0))), "[{0 1 4} {1 2 5}]")
	// read and written by one Ins
	expect(t, fn(0, 3, block(ret(0), konst(0), bin(api.OAdd, 0, 0, 0))), "[{0 1 3}]")
	expect(t, fn(0, 3, block(ret(2), konst(0), konst(1), bin(api.OAdd, 2, 0, 1))), "[{0 1 3} {1 2 3} {2 3 4}]")
	expect(t, fn(0, 2, block(ret(1), mov(0, 0), konst(1))), "[{0 1 1} {1 2 3}]")
}

// Each Op by itself: what it reads, what it writes, and nothing else of it.
func TestEachOp(t *testing.T) {
	all := api.RIns{D: 9, A: 8, B: 7, N: api.OEq, K: val.Int(2), L: []int{6, 3, 6}}
	for op, want := range map[int]string{
		api.RConst: "[{5 1 3} {9 2 2}]",
		api.RMov:   "[{5 1 3} {8 1 2} {9 2 2}]",
		api.RBin:   "[{5 1 3} {7 1 2} {8 1 2} {9 2 2}]",
		api.RUn:    "[{5 1 3} {8 1 2} {9 2 2}]",
		api.RCall:  "[{3 1 2} {5 1 3} {6 1 2} {9 2 2}]",
		api.ROut:   "[{5 1 3} {8 1 2}]",
		api.RTick:  "[{5 1 3}]",
		api.RList:  "[{3 1 2} {5 1 3} {6 1 2} {9 2 2}]",
		0:          "[{5 1 3}]",
		9:          "[{5 1 3}]",
		-1:         "[{5 1 3}]",
	} {
		i := all
		i.Op = op
		expect(t, fn(0, 10, block(ret(5), tick(1), i)), want)
	}
	// each Kind of end
	for kind, want := range map[int]string{api.TJump: "[]", api.TBr: "[{5 1 1}]", api.TRet: "[{5 1 1}]", 0: "[]", 4: "[]"} {
		expect(t, fn(0, 10, api.RBlock{Term: api.RTerm{Kind: kind, A: 5}}), want)
	}
}

// A parameter is there from the call on, if it is needed or written at all.
func TestParameters(t *testing.T) {
	expect(t, fn(1, 2, block(ret(1), mov(1, 0))), "[{0 0 1} {1 1 2}]")
	expect(t, fn(2, 2, block(ret(1), mov(1, 0))), "[{0 0 1} {1 0 2}]")
	// read late, read never, written only
	expect(t, fn(3, 4, block(ret(1), konst(3), out(3), out(3))), "[{1 0 4} {3 1 3}]")
	expect(t, fn(3, 4, block(ret(3), konst(3), konst(2), out(3))), "[{2 0 2} {3 1 4}]")
	expect(t, fn(3, 4, block(ret(3), konst(3))), "[{3 1 2}]")
	expect(t, fn(8, 9, block(ret(0), tick(1), call(0, 8, 7, 1, 6))), "[{0 0 3} {1 0 2} {6 0 2} {7 0 2} {8 2 2}]")
	// one in a block that is not come to
	expect(t, fn(2, 2, block(ret(0)), block(ret(0), konst(1))), "[{0 0 3} {1 0 2}]")
	// by Reg, not by where they are seen first
	expect(t, fn(3, 3, block(ret(0), out(2), out(1))), "[{0 0 3} {1 0 2} {2 0 1}]")
	// more than registers, fewer than none
	expect(t, fn(math.MaxInt, 3, block(ret(0), out(2))), "[{0 0 2} {2 0 1}]")
	expect(t, fn(math.MinInt, 3, block(ret(0), out(2))), "[{0 1 2} {2 1 1}]")
}

// What is live on a way from block to block counts at all positions of the blocks on it, in whatever order they stand.
func TestBlocks(t *testing.T) {
	// read at the end of a branch, and behind it on one side
	expect(t, fn(0, 5, block(br(4, 1, 2), konst(4), konst(0)), block(ret(4), konst(1), out(0)), block(ret(3), konst(3))), "[{4 1 6} {0 2 5} {1 4 4} {3 7 8}]")
	// live through blocks that do not name it
	expect(t, fn(0, 2, block(jump(1), konst(0)), block(jump(2)), block(jump(3), tick(1)), block(ret(0))), "[{0 1 6}]")
	// live at the end of the last block: the way leads back
	expect(t, fn(0, 2, block(jump(2), konst(0)), block(ret(0)), block(jump(1), tick(1), tick(1))), "[{0 1 6}]")
	expect(t, fn(0, 2, block(jump(2)), block(ret(0)), block(jump(1), konst(0), tick(1))), "[{0 2 5}]")
	// not live between where it is read and where it is written anew: all between counts too
	expect(t, fn(0, 2, block(jump(1), konst(0), out(0)), block(jump(2), tick(1)), block(ret(0), tick(1), konst(0))), "[{0 1 8}]")
	// blocks without Ins: their ends read
	expect(t, fn(0, 9, block(br(5, 1, 2)), block(br(6, 2, 3)), block(ret(7)), block(ret(8))), "[{5 1 1} {6 1 2} {7 1 3} {8 1 4}]")
}

func TestLoops(t *testing.T) {
	// i counts down, n is asked for in each round, s is put out behind the loop, k is written and read in the round
	const i, n, s, k = 0, 1, 2, 3
	f := fn(0, 9,
		block(jump(1), konst(s), konst(i), konst(n)),
		block(br(i, 2, 3)),
		block(jump(1), tick(1), konst(k), bin(api.OSub, i, i, k), bin(api.OAdd, n, n, n)),
		block(ret(s), out(s)))
	expect(t, f, "[{2 1 12} {0 2 10} {1 3 10} {3 7 8}]")
	// k is needed in the next round too: from the beginning on, since the first round reads it as well
	f.Blocks[2].Ins = hand.Code(tick(1), bin(api.OSub, i, i, k), konst(k))
	expect(t, f, "[{2 1 11} {3 1 9} {0 2 9} {1 3 3}]")
	// a loop of one block, and one that is never left
	expect(t, fn(1, 3, block(br(0, 0, 1), tick(1), mov(1, 0)), block(ret(2))), "[{0 0 3} {2 1 4} {1 2 2}]")
	expect(t, fn(1, 3, block(jump(1)), block(jump(1), tick(1), out(0), konst(1))), "[{0 0 5} {1 4 4}]")
	// loops within loops: what the outer one needs is there through the whole of the inner one
	f = fn(0, 9,
		block(jump(1), konst(0)),
		block(br(0, 2, 5), tick(1)),
		block(jump(3), konst(1)),
		block(br(1, 3, 4), tick(2), un(api.ONot, 1, 1)),
		block(jump(1), un(api.ONot, 0, 0)),
		block(ret(0)))
	expect(t, f, "[{0 1 12} {1 5 9}]")
}

// Blocks that are not come to have positions, and what they need and write is needed.
func TestBlocksThatAreNotComeTo(t *testing.T) {
	expect(t, fn(0, 9, block(ret(0), konst(0)), block(ret(1), konst(1))), "[{0 1 2} {1 3 4}]")
	expect(t, fn(0, 9, block(ret(0), konst(0)), block(br(0, 2, 0), out(1)), block(jump(1), konst(2))), "[{0 1 6} {1 3 6} {2 5 5}]")
	expect(t, fn(0, 9, block(jump(2), konst(0)), block(jump(2), konst(5)), block(ret(0))), "[{0 1 5} {5 3 3}]")
}

// By Start, then by Reg, not by End, nor in the order in which they are named.
func TestOrder(t *testing.T) {
	expect(t, fn(0, 9, block(ret(4), list(8, 7, 5, 3), konst(1), konst(0), konst(4), list(2, 6, 0, 1))), "[{3 1 1} {5 1 1} {6 1 5} {7 1 1} {8 1 1} {1 2 5} {0 3 5} {4 4 6} {2 5 5}]")
}

// The registers at the edges of what there may be; a number that no sound code has is no register, as live has it.
func TestEdgesOfRegisters(t *testing.T) {
	for _, r := range []int{0, 1, 62, 63, 64, 65, 127, 128, 191, 192, 198, 199} {
		expect(t, fn(0, 200, block(ret(r))), fmt.Sprintf("[{%d 1 1}]", r))
		expect(t, fn(0, 200, block(jump(1), konst(r)), block(ret(r))), fmt.Sprintf("[{%d 1 3}]", r))
		expect(t, fn(0, 200, block(jump(0), konst(r))), fmt.Sprintf("[{%d 1 1}]", r))
	}
	for _, r := range []int{-1, -2, -65, 200, 201, 256, 1 << 32, 1 << 40, math.MinInt, math.MaxInt} {
		expect(t, fn(2, 2, block(br(r, 0, 1), konst(r), out(r), tick(1), call(0, r, r, r)), block(ret(r))), "[]")
		expect(t, fn(2, 2, block(ret(1), konst(r), bin(api.OAdd, r, 1, r), list(0, r, 1))), "[{0 0 3} {1 0 4}]")
	}
	// whatever Regs says
	for _, regs := range []int{-1, 0, 1, 3, 200, 1 << 40} {
		expect(t, fn(0, regs, block(ret(3), konst(2))), "[{2 1 1} {3 1 2}]")
	}
}

func TestNoBlocks(t *testing.T) {
	for _, f := range []api.RFn{{}, {Params: 8, Regs: 200}, {Params: 1, Regs: 1, Blocks: []api.RBlock{}}, {Params: 1, Blocks: make([]api.RBlock, 3)}} {
		if l := color.Intervals(f); len(l) != 0 {
			t.Error(f, l)
		}
	}
}

func between(start, end int) color.Interval { return color.Interval{Start: start, End: end} }

func TestOverlap(t *testing.T) {
	for _, x := range []struct {
		a, b color.Interval
		want bool
	}{
		{between(1, 3), between(4, 9), false}, {between(1, 3), between(3, 9), true}, {between(1, 3), between(2, 9), true},
		{between(1, 9), between(4, 5), true}, {between(1, 9), between(1, 2), true}, {between(1, 9), between(8, 9), true}, {between(1, 9), between(9, 9), true}, {between(1, 9), between(1, 1), true},
		{between(3, 3), between(3, 3), true}, {between(3, 3), between(4, 4), false}, {between(0, 0), between(1, 9), false}, {between(-5, -3), between(-3, 0), true}, {between(-5, -3), between(-2, 0), false},
		// an End below its Start: it has no position, whatever the other one has
		{between(5, 4), between(1, 9), false}, {between(5, 4), between(5, 4), false}, {between(9, 1), between(1, 9), false}, {between(9, 1), between(9, 1), false}, {between(9, 1), between(5, 5), false}, {between(5, 4), between(4, 5), false},
		{between(math.MinInt, math.MaxInt), between(3, 3), true}, {between(math.MinInt, math.MaxInt), between(math.MaxInt, math.MaxInt), true}, {between(math.MinInt, math.MinInt), between(math.MaxInt, math.MaxInt), false}, {between(math.MaxInt, math.MinInt), between(math.MinInt, math.MaxInt), false},
	} {
		// whatever registers they are of
		for _, regs := range [][2]int{{0, 0}, {1, 2}, {2, 1}, {-1, math.MaxInt}} {
			x.a.Reg, x.b.Reg = regs[0], regs[1]
			if color.Overlap(x.a, x.b) != x.want || color.Overlap(x.b, x.a) != x.want {
				t.Error(x)
			}
		}
	}
}

// All of few positions, held against the positions themselves.
func TestAllOverlaps(t *testing.T) {
	for n := range 6 * 6 * 6 * 6 {
		a, b := between(n%6, n/6%6), between(n/36%6, n/216)
		common := 0
		for at := range 6 {
			if a.Start <= at && at <= a.End && b.Start <= at && at <= b.End {
				common++
			}
		}
		if color.Overlap(a, b) != (common > 0) {
			t.Error(a, b)
		}
	}
}
