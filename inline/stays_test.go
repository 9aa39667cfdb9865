package inline_test

import (
	"math"
	"slices"
	"testing"

	"ratline/api"
	"ratline/hand"
	"ratline/inline"
)

// Promise 17.1: Stays, each of its reasons by itself.

// roomy is a program whose function 1, of Size 5, with two registers and two blocks, main calls.
func roomy() api.RProg {
	return prog(fn(0, 3, block(ret(0), calls(1, 2)...)), fn(0, 2, block(jump(1), out(0), out(1)), block(ret(0), out(0))), fn(0, 1, block(ret(0), calls(2)...)), fn(0, 1, block(ret(0), calls(2, 1)...)))
}

func expectStays(t *testing.T, before, after api.RProg, fn int, i api.RIns, size, deep int, want bool) {
	t.Helper()
	if inline.Stays(before, after, fn, i, size, deep) != want {
		t.Errorf("in %d with %d and %d: %v does not answer %v\n%s", fn, size, deep, i, want, short(after))
	}
}

func TestStaysOfCyclic(t *testing.T) {
	p := roomy()
	for n, want := range []bool{false, false, true, false} {
		expectStays(t, p, p, 0, call(n, 0), 9, 3, want)
	}
	// whether it is Cyclic says before; after does not count
	after := roomy()
	after.Fns[1].Blocks[0].Ins = calls(1)
	after.Fns[2].Blocks[0].Ins = nil
	expectStays(t, p, after, 0, call(1, 0), 9, 3, false)
	expectStays(t, p, after, 0, call(2, 0), 9, 3, true)
	expectStays(t, after, p, 0, call(1, 0), 9, 3, true)
	expectStays(t, after, p, 0, call(2, 0), 9, 3, false)
	// by others
	p.Fns[1].Blocks[1].Ins = calls(3)
	expectStays(t, p, p, 0, call(1, 0), 9, 3, true)
	expectStays(t, p, p, 0, call(3, 0), 9, 3, true)
	expectStays(t, p, p, 0, call(0, 0), 9, 3, false)
}

func TestStaysOfSize(t *testing.T) {
	p, after := roomy(), roomy()
	after.Fns[1] = sized(1, 1)
	for size, want := range map[int]bool{math.MinInt: true, -1: true, 0: true, 4: true, 5: false, 6: false, math.MaxInt: false} {
		expectStays(t, p, p, 0, call(1, 0), size, 3, want)
		expectStays(t, p, after, 0, call(1, 0), size, 3, want)
	}
	expectStays(t, after, p, 0, call(1, 0), 1, 3, false)
	p.Fns[1].Blocks = nil
	expectStays(t, p, p, 0, call(1, 0), -7, 3, false)
}

func TestStaysOfDeep(t *testing.T) {
	p := roomy()
	for at := range 12 {
		for _, d := range []int{math.MinInt, -1, 0, 1, 2, 7, 8, 9, 12, math.MaxInt} {
			expectStays(t, p, p, 0, deep(at, call(1, 0)), 9, d, at >= d || at >= 8)
		}
	}
	expectStays(t, p, p, 0, deep(math.MaxInt, call(1, 0)), 9, math.MaxInt, true)
	expectStays(t, p, p, 0, deep(-1, call(1, 0)), 9, -1, false)
}

func TestStaysOfRegisters(t *testing.T) {
	p := roomy()
	for regs, want := range map[int]bool{1: false, 197: false, 198: false, 199: true, 200: true, math.MaxInt: true, 0: false, math.MinInt: false} {
		after := roomy()
		after.Fns[3].Regs = regs
		expectStays(t, p, after, 3, call(1, 0), 9, 3, want)
		expectStays(t, p, after, 0, call(1, 0), 9, 3, false)
	}
	// those of the callee are those that it had ahead
	after := roomy()
	after.Fns[3].Regs, after.Fns[1].Regs = 198, 200
	expectStays(t, p, after, 3, call(1, 0), 9, 3, false)
	p.Fns[1].Regs = 3
	expectStays(t, p, after, 3, call(1, 0), 9, 3, true)
	for regs, want := range map[int]bool{math.MaxInt: true, 201: true, 2: false, 0: false, -9: false, math.MinInt: false} {
		p.Fns[1].Regs = regs
		expectStays(t, p, after, 3, call(1, 0), 9, 3, want)
	}
}

func TestStaysOfBlocks(t *testing.T) {
	p := roomy()
	for blocks, want := range map[int]bool{1: false, 1996: false, 1997: false, 1998: true, 2000: true, 5000: true} {
		after := roomy()
		after.Fns[3] = chain(blocks)
		expectStays(t, p, after, 3, call(1, 0), 9, 3, want)
		expectStays(t, p, after, 0, call(1, 0), 9, 3, false)
	}
	// those of the callee are those that it had ahead
	after := roomy()
	after.Fns[3], after.Fns[1] = chain(1997), chain(50)
	expectStays(t, p, after, 3, call(1, 0), 9, 3, false)
	p.Fns[1] = chain(3)
	expectStays(t, p, after, 3, call(1, 0), 9, 3, true)
}

// Theirs, three for each register and one for each block of the callee: 5 and 6 and 2.
func TestStaysOfSizes(t *testing.T) {
	p := roomy()
	for size, want := range map[int]bool{1: false, 13986: false, 13987: false, 13988: true, 14000: true, 20000: true} {
		after := roomy()
		after.Fns[3] = sized(size, 1)
		expectStays(t, p, after, 3, call(1, 0), 9, 3, want)
		expectStays(t, p, after, 0, call(1, 0), 9, 3, false)
		// the call's own registers do not count, but lists in the function do
		expectStays(t, p, after, 3, call(1, 0, slices.Repeat([]int{0}, 300)...), 9, 3, want)
		after.Fns[3] = fn(0, 1, block(ret(0), list(0, make([]int, size)...)))
		expectStays(t, p, after, 3, call(1, 0), 9, 3, want || size >= 13986)
	}
	// those of the callee are those that it had ahead
	after := roomy()
	after.Fns[3] = sized(13987, 1)
	after.Fns[1] = sized(900, 200)
	expectStays(t, p, after, 3, call(1, 0), 9, 3, false)
	for n, more := range []func(f *api.RFn){
		func(f *api.RFn) { f.Blocks[0].Ins = append(f.Blocks[0].Ins, out(0)) },
		func(f *api.RFn) { f.Blocks[0].Ins[0] = list(0, 0) },
		func(f *api.RFn) { f.Regs++ },
		func(f *api.RFn) { f.Blocks = append(f.Blocks, block(ret(0))) },
	} {
		p := roomy()
		more(&p.Fns[1])
		if !inline.Stays(p, after, 3, call(1, 0), 9, 3) {
			t.Error(n)
		}
	}
}

// What is no RCall is not one that may stay; a call of no function is; in no function there is room.
func TestStaysOfNone(t *testing.T) {
	p := roomy()
	for _, i := range []api.RIns{{}, {N: 2}, out(0), tick(2), {Op: 99, N: 2}, {Op: -1, N: 77}, list(2), {Op: api.RBin, N: 77}} {
		expectStays(t, p, p, 0, i, 9, 3, false)
		expectStays(t, p, p, 77, i, -1, -1, false)
	}
	for _, n := range []int{-1, 4, 77, math.MinInt, math.MaxInt} {
		expectStays(t, p, p, 0, call(n, 0), 9, 3, true)
		expectStays(t, p, p, n, call(n, 0), 9, 3, true)
		expectStays(t, p, p, n, call(1, 0), 9, 3, false)
		expectStays(t, p, p, n, call(2, 0), 9, 3, true)
		expectStays(t, p, p, n, call(1, 0), 4, 3, true)
		expectStays(t, p, p, n, call(1, 0), 9, 0, true)
		expectStays(t, p, api.RProg{}, n, call(1, 0), 9, 3, false)
		expectStays(t, api.RProg{}, p, n, call(1, 0), 9, 3, true)
	}
	expectStays(t, api.RProg{}, api.RProg{}, 0, api.RIns{}, 0, 0, false)
	expectStays(t, api.RProg{}, api.RProg{}, 0, hand.Call(0, 0), 9, 9, true)
}
