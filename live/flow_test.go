package live_test

import (
	"fmt"
	"math"
	"slices"
	"testing"

	"ratline/api"
	"ratline/live"
)

// Promise 13.2: In, Out, At, told here by hand.

// expect asks for In and Out of a function, and asks that At goes with them.
func expect(t *testing.T, f api.RFn, in, out string) {
	t.Helper()
	ahead, behind := live.In(f), live.Out(f)
	if s := fmt.Sprint(ahead); s != in {
		t.Errorf("In of %s: %s, want %s", short(f), short(s), short(in))
	}
	if s := fmt.Sprint(behind); s != out {
		t.Errorf("Out of %s: %s, want %s", short(f), short(s), short(out))
	}
	for n, b := range f.Blocks {
		l := live.At(f, n)
		if len(l) != len(b.Ins)+1 || !slices.Equal(l[0], ahead[n]) {
			t.Errorf("At of %s, %d: %s", short(f), n, short(l))
		}
	}
}

// expectLine asks for At of a function of one block.
func expectLine(t *testing.T, end api.RTerm, l []api.RIns, want string) {
	t.Helper()
	f := fn(200, block(end, l...))
	if s := fmt.Sprint(live.At(f, 0)); s != want {
		t.Errorf("At of %s: %s, want %s", short(f), short(s), short(want))
	}
	expect(t, f, fmt.Sprint(live.At(f, 0)[:1]), "[[]]")
}

func TestExample(t *testing.T) {
	f := fn(2, block(ret(1), mov(1, 0)))
	expect(t, f, "[[0]]", "[[]]")
	if s := fmt.Sprint(live.At(f, 0)); s != "[[0] [1]]" {
		t.Error(s)
	}
}

// Each Op in straight code. What is read counts, whether what is made of it is needed or not.
func TestEachOpInALine(t *testing.T) {
	for _, c := range []struct {
		i    api.RIns
		a    int
		want string
	}{
		{konst(0), 0, "[[] [0]]"}, {konst(0), 1, "[[1] [1]]"},
		{mov(1, 0), 1, "[[0] [1]]"}, {mov(1, 0), 0, "[[0] [0]]"}, {mov(1, 0), 2, "[[0 2] [2]]"}, {mov(0, 0), 0, "[[0] [0]]"}, {mov(0, 0), 3, "[[0 3] [3]]"},
		{bin(api.OAdd, 2, 0, 1), 2, "[[0 1] [2]]"}, {bin(api.OAdd, 2, 1, 0), 3, "[[0 1 3] [3]]"}, {bin(api.OEq, 2, 2, 1), 2, "[[1 2] [2]]"}, {bin(api.OEq, 2, 1, 2), 1, "[[1 2] [1]]"}, {bin(api.OSub, 4, 4, 4), 4, "[[4] [4]]"},
		{un(api.ONot, 1, 0), 1, "[[0] [1]]"}, {un(api.OLen, 1, 0), 2, "[[0 2] [2]]"}, {un(api.OLen, 1, 1), 1, "[[1] [1]]"},
		{out(1), 1, "[[1] [1]]"}, {out(1), 2, "[[1 2] [2]]"}, {tick(5), 0, "[[0] [0]]"}, {tick(5), 5, "[[5] [5]]"},
		{list(3), 3, "[[] [3]]"}, {list(3), 4, "[[4] [4]]"}, {list(3, 9, 1, 9), 3, "[[1 9] [3]]"}, {list(3, 3, 1), 3, "[[1 3] [3]]"}, {list(3, 2, 1, 0), 4, "[[0 1 2 4] [4]]"},
	} {
		expectLine(t, ret(c.a), code(c.i), c.want)
	}
	// an RCall, which stands behind an RTick: what it calls does not matter, nor do registers that have the number of a function or of an RTick
	expectLine(t, ret(3), code(tick(6), call(0, 3)), "[[] [] [3]]")
	expectLine(t, ret(4), code(tick(6), call(8, 3)), "[[4] [4] [4]]")
	expectLine(t, ret(3), code(tick(6), call(8, 3, 7, 1, 7)), "[[1 7] [1 7] [3]]")
	expectLine(t, ret(3), code(tick(6), call(0, 3, 3, 1)), "[[1 3] [1 3] [3]]")
}

func TestLines(t *testing.T) {
	expectLine(t, ret(0), nil, "[[0]]")
	expectLine(t, ret(199), nil, "[[199]]")
	// written twice, read between
	expectLine(t, ret(0), code(konst(0), out(0), konst(0)), "[[] [0] [] [0]]")
	// written, though nobody reads it
	expectLine(t, ret(0), code(konst(1), mov(1, 0), konst(1)), "[[0] [0] [0] [0]]")
	// a chain of copies, and back
	expectLine(t, ret(0), code(mov(1, 0), mov(2, 1), mov(3, 2), mov(0, 3)), "[[0] [1] [2] [3] [0]]")
	// two that change places by a third
	expectLine(t, ret(3), code(mov(2, 0), mov(0, 1), mov(1, 2), list(3, 0, 1)), "[[0 1] [1 2] [0 2] [0 1] [3]]")
	// counted up in its place
	expectLine(t, ret(5), code(bin(api.OAdd, 5, 5, 6), bin(api.OAdd, 5, 5, 7)), "[[5 6 7] [5 7] [5]]")
	// read last by the one that writes it first
	expectLine(t, ret(1), code(konst(0), list(0, 0, 1), out(0), mov(1, 0)), "[[1] [0 1] [0] [0] [1]]")
}

// A branch reads its A; what one side reads is live ahead of it, if that side does not write it first.
func TestBranches(t *testing.T) {
	expect(t, fn(9, block(br(4, 1, 2)), block(ret(0)), block(ret(1))), "[[0 1 4] [0] [1]]", "[[0 1] [] []]")
	expect(t, fn(9, block(br(4, 2, 1)), block(ret(0)), block(ret(4))), "[[0 4] [0] [4]]", "[[0 4] [] []]")
	expect(t, fn(9, block(br(4, 1, 1)), block(ret(0))), "[[0 4] [0]]", "[[0] []]")
	// written on both sides, on one, on none; where they meet it is read
	meet := block(ret(0))
	expect(t, fn(9, block(br(4, 1, 2)), block(jump(3), konst(0)), block(jump(3), konst(0)), meet), "[[4] [] [] [0]]", "[[] [0] [0] []]")
	expect(t, fn(9, block(br(4, 1, 2)), block(jump(3), konst(0)), block(jump(3)), meet), "[[0 4] [] [0] [0]]", "[[0] [0] [0] []]")
	expect(t, fn(9, block(br(4, 1, 2)), block(jump(3)), block(jump(3), konst(0)), meet), "[[0 4] [0] [] [0]]", "[[0] [0] [0] []]")
	expect(t, fn(9, block(br(4, 1, 2)), block(jump(3)), block(jump(3)), meet), "[[0 4] [0] [0] [0]]", "[[0] [0] [0] []]")
	// written ahead of the branch: behind the write it is live, ahead of it not
	f := fn(9, block(br(4, 1, 2), konst(0), konst(4)), block(ret(0)), block(ret(1), konst(1)))
	expect(t, f, "[[] [0] []]", "[[0] [] []]")
	if s := fmt.Sprint(live.At(f, 0), live.At(f, 1), live.At(f, 2)); s != "[[] [0] [0 4]] [[0]] [[] [1]]" {
		t.Error(s)
	}
	// what an end reads is written by nothing behind it
	expect(t, fn(9, block(br(4, 1, 1)), block(ret(4), konst(4))), "[[4] []]", "[[] []]")
	// an end of another kind has an A of 0 that is not read
	expect(t, fn(9, block(jump(1)), block(ret(3))), "[[3] [3]]", "[[3] []]")
}

func TestLoops(t *testing.T) {
	// i counts down, n is asked for, s is put out behind the loop
	const i, n, s = 0, 1, 2
	f := fn(9,
		block(jump(1), konst(i)),
		block(br(3, 2, 3), bin(api.OLt, 3, i, n)),
		block(jump(1), bin(api.OAdd, i, i, n), tick(1)),
		block(ret(s), out(s)))
	expect(t, f, "[[1 2] [0 1 2] [0 1 2] [2]]", "[[0 1 2] [0 1 2] [0 1 2] []]")
	if l := fmt.Sprint(live.At(f, 1), live.At(f, 2)); l != "[[0 1 2] [0 1 2 3]] [[0 1 2] [0 1 2] [0 1 2]]" {
		t.Error(l)
	}
	// what a round writes ahead of reading it is not live around it
	f.Blocks[2].Ins = code(konst(4), tick(1), out(4), bin(api.OAdd, i, i, 4))
	expect(t, f, "[[1 2] [0 1 2] [0 1 2] [2]]", "[[0 1 2] [0 1 2] [0 1 2] []]")
	// what it reads ahead of writing it is
	f.Blocks[2].Ins = code(out(4), konst(4), tick(1))
	expect(t, f, "[[1 2 4] [0 1 2 4] [0 1 2 4] [2]]", "[[0 1 2 4] [0 1 2 4] [0 1 2 4] []]")
	// a loop of one block
	expect(t, fn(9, block(br(0, 0, 1), tick(1), mov(0, 1), konst(1)), block(ret(2))), "[[1 2] [2]]", "[[1 2] []]")
	expect(t, fn(9, block(br(0, 0, 0), tick(1))), "[[0]]", "[[0]]")
}

// Loops within loops: what the innermost reads is live all around, but for what each round writes first.
func TestLoopsWithinLoops(t *testing.T) {
	f := fn(9,
		block(jump(1), konst(0)),
		block(br(0, 2, 6), tick(1)),
		block(jump(3), konst(1)),
		block(br(1, 4, 5), tick(2)),
		block(jump(3), bin(api.OSub, 1, 1, 7), out(2), konst(3)),
		block(jump(1), bin(api.OSub, 0, 0, 7), konst(2)),
		block(ret(3)))
	expect(t, f, "[[2 3 7] [0 2 3 7] [0 2 3 7] [0 1 2 3 7] [0 1 2 7] [0 3 7] [3]]", "[[0 2 3 7] [0 2 3 7] [0 1 2 3 7] [0 1 2 3 7] [0 1 2 3 7] [0 2 3 7] []]")
	// three, each with a register of its own that is read at its head, and written on the way back to it: within the loop it is not live
	f = fn(9,
		block(br(0, 1, 6), tick(1)),
		block(br(1, 2, 5), tick(1)),
		block(br(2, 3, 4), tick(1)),
		block(jump(2), konst(2)),
		block(jump(1), konst(1)),
		block(jump(0), konst(0)),
		block(ret(8)))
	expect(t, f, "[[0 1 2 8] [1 2 8] [2 8] [8] [2 8] [1 2 8] [8]]", "[[1 2 8] [1 2 8] [2 8] [2 8] [1 2 8] [0 1 2 8] []]")
}

// A circle that is never left: what stands behind it is not come to from it.
func TestCirclesWithoutAWayOut(t *testing.T) {
	expect(t, fn(9, block(jump(1)), block(jump(1), tick(1)), block(ret(5))), "[[] [] [5]]", "[[] [] []]")
	expect(t, fn(9, block(jump(1), konst(3)), block(jump(2), out(3)), block(jump(1), tick(1), out(4)), block(ret(5))), "[[4] [3 4] [3 4] [5]]", "[[3 4] [3 4] [3 4] []]")
}

// Blocks that are not come to: they have what is live too, and what they read is live nowhere else.
func TestBlocksThatAreNotComeTo(t *testing.T) {
	expect(t, fn(9, block(ret(0)), block(ret(1), out(2))), "[[0] [1 2]]", "[[] []]")
	expect(t, fn(9, block(jump(2)), block(jump(2), out(3)), block(ret(0))), "[[0] [0 3] [0]]", "[[0] [0] []]")
	expect(t, fn(9, block(ret(0)), block(br(1, 2, 0)), block(jump(1), out(2), tick(1))), "[[0] [0 1 2] [0 1 2]]", "[[] [0 1 2] [0 1 2]]")
}

// One block ahead of another in the list may stand behind it on the way.
func TestBlocksInAnyOrder(t *testing.T) {
	expect(t, fn(9, block(jump(3)), block(ret(5), mov(5, 4)), block(jump(1), mov(4, 3)), block(jump(2), mov(3, 2))), "[[2] [4] [3] [2]]", "[[2] [] [4] [3]]")
	expect(t, fn(9, block(jump(2)), block(jump(3), mov(3, 2)), block(jump(1), out(1)), block(ret(3))), "[[1 2] [2] [1 2] [3]]", "[[1 2] [3] [2] []]")
}

// edges are the registers at the edges of words.
func edges() []int { return []int{0, 63, 64, 127, 128, 199} }

// Each register at an edge by itself: through a loop, and untouched by writes of its neighbours and of those that have its place in another word.
func TestEachEdge(t *testing.T) {
	for _, r := range append(edges(), upTo(0, 199)...) {
		var writes []api.RIns
		for _, other := range []int{r - 1, r + 1, r - 64, r + 64, r - 128, r + 128, r - 192, r + 192, r ^ 63} {
			if other >= 0 && other < 200 {
				writes = append(writes, konst(other))
			}
		}
		one := fmt.Sprint([]int{r})
		expect(t, fn(200, block(ret(r), writes...)), "["+one+"]", "[[]]")
		expect(t, fn(200, block(ret(r), append(writes, konst(r))...)), "[[]]", "[[]]")
		around := fn(200, block(br(r, 1, 2), writes...), block(jump(0), tick(1)), block(jump(3), writes...), block(ret(r)))
		expect(t, around, "["+one+" "+one+" "+one+" "+one+"]", "["+one+" "+one+" "+one+" []]")
	}
}

func TestAllEdgesAtOnce(t *testing.T) {
	all := fmt.Sprint(edges())
	expect(t, fn(200, block(jump(1)), block(ret(1), list(1, 199, 128, 127, 64, 63, 0))), "["+all+" "+all+"]", "["+all+" []]")
	// one after the other is written
	var l []api.RIns
	want := []string{}
	for n, r := range edges() {
		l = append(l, konst(r))
		want = append(want, fmt.Sprint(edges()[:n]))
	}
	l = append(l, list(1, edges()...))
	expectLine(t, ret(1), l, fmt.Sprint(append(want, all, "[1]")))
}

// lists of all 200 registers, 64 at most in each.
func readsAll() []api.RIns {
	return code(list(0, upTo(0, 63)...), list(0, upTo(64, 127)...), list(0, upTo(128, 191)...), list(0, upTo(192, 199)...))
}

func TestAllRegisters(t *testing.T) {
	expectLine(t, ret(0), readsAll(), fmt.Sprint([][]int{upTo(0, 199), upTo(64, 199), upTo(128, 199), upTo(192, 199), {0}}))
	all := fmt.Sprint(upTo(0, 199))
	expect(t, fn(200, block(jump(1), tick(1)), block(br(0, 0, 2)), block(ret(0), readsAll()...)), "["+all+" "+all+" "+all+"]", "["+all+" "+all+" []]")
}

// What stands in fields that are not registers is none: names, Params, Regs, Deep, K.
func TestOtherFields(t *testing.T) {
	i := mov(1, 0)
	i.Deep = 5
	f := api.RFn{Name: "main", Params: 2, Regs: 8, Blocks: []api.RBlock{block(ret(1), i)}}
	expect(t, f, "[[0]]", "[[]]")
}

// A block that is none in At, and a function that has none.
func TestNoBlock(t *testing.T) {
	f := fn(2, block(ret(1), mov(1, 0)), block(ret(0)))
	for _, n := range []int{-1, -2, 2, 3, 64, math.MinInt, math.MaxInt, 1 << 32} {
		if l := live.At(f, n); len(l) != 0 {
			t.Error(n, l)
		}
	}
	for _, f := range []api.RFn{{}, {Regs: 3, Blocks: []api.RBlock{}}, fn(2, block(ret(0)), block(ret(0)))} {
		f.Blocks = f.Blocks[:0]
		if len(live.In(f))+len(live.Out(f))+len(live.At(f, 0))+len(live.At(f, 1)) != 0 {
			t.Error("something is live where nothing is")
		}
	}
}
