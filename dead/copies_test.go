package dead_test

import (
	"fmt"
	"math"
	"reflect"
	"slices"
	"testing"

	"ratline/api"
	"ratline/dead"
	"ratline/hand"
	"ratline/val"
)

var (
	konst, mov, bin, un, call, list = hand.Const, hand.Mov, hand.Bin, hand.Un, hand.Call, hand.List
	out, tick, jump, br, ret        = hand.Out, hand.Tick, hand.Jump, hand.Br, hand.Ret
	code, block, fn, deep           = hand.Code, hand.Block, hand.Fn, hand.Deep
	plain, copied                   = hand.Plain, hand.Copied
)

func number(d int) api.RIns { return konst(d, val.Int(7)) }

// short is what is told of a thing that may be great, or have a value that holds itself.
func short(x any) string {
	if f, is := x.(api.RFn); is {
		x = copied(f)
	}
	s := fmt.Sprint(x)
	if len(s) > 900 {
		s = s[:900] + " .."
	}
	return s
}

type pass = hand.Pass

// expect asks that a pass makes want of f.
func expect(t *testing.T, p pass, f, want api.RFn) {
	t.Helper()
	if got := p(f); !reflect.DeepEqual(plain(got), plain(want)) {
		t.Errorf("of %s is made %s, want %s", short(f), short(got), short(want))
	}
}

// expectBlock asks that a pass makes want of a function of one block.
func expectBlock(t *testing.T, p pass, b, want api.RBlock) {
	t.Helper()
	expect(t, p, fn(0, 9, b), fn(0, 9, want))
}

func expectSame(t *testing.T, p pass, b api.RBlock) {
	t.Helper()
	expectBlock(t, p, b, b)
}

// The example of the chapter.
func TestExample(t *testing.T) {
	expectBlock(t, dead.Run, block(ret(2), mov(1, 0), mov(2, 1)), block(ret(0)))
}

// Promise 15.1: Copies.

// A copy is read in each Op, at each of its places, and in each end.
func TestCopiesInEachOp(t *testing.T) {
	for _, x := range []struct{ i, want api.RIns }{
		{mov(2, 1), mov(2, 0)}, {mov(2, 3), mov(2, 3)},
		{bin(api.OAdd, 3, 1, 2), bin(api.OAdd, 3, 0, 2)}, {bin(api.OSub, 3, 2, 1), bin(api.OSub, 3, 2, 0)}, {bin(api.OEq, 3, 1, 1), bin(api.OEq, 3, 0, 0)}, {bin(api.OAdd, 3, 0, 1), bin(api.OAdd, 3, 0, 0)},
		{un(api.ONeg, 3, 1), un(api.ONeg, 3, 0)}, {un(api.ONot, 3, 4), un(api.ONot, 3, 4)},
		{call(1, 3, 1), call(1, 3, 0)}, {call(1, 3, 2, 1, 1, 0), call(1, 3, 2, 0, 0, 0)}, {call(1, 3), call(1, 3)},
		{out(1), out(0)}, {out(2), out(2)}, {tick(1), tick(1)}, {number(3), number(3)},
		{list(3, 1, 2, 1), list(3, 0, 2, 0)}, {list(3), list(3)},
	} {
		expectBlock(t, dead.Copies, block(ret(5), mov(1, 0), x.i), block(ret(5), mov(1, 0), x.want))
		expectSame(t, dead.Copies, block(ret(5), x.i))
	}
	for _, x := range []struct{ end, want api.RTerm }{
		{ret(1), ret(0)}, {ret(0), ret(0)}, {ret(2), ret(2)}, {br(1, 0, 0), br(0, 0, 0)}, {br(2, 0, 0), br(2, 0, 0)}, {jump(0), jump(0)},
	} {
		expectBlock(t, dead.Copies, block(x.end, mov(1, 0)), block(x.want, mov(1, 0)))
		expectSame(t, dead.Copies, block(x.end))
	}
}

func TestCopiesOfCopies(t *testing.T) {
	expectBlock(t, dead.Copies, block(ret(3), mov(1, 0), mov(2, 1), mov(3, 2)), block(ret(0), mov(1, 0), mov(2, 0), mov(3, 0)))
	// the one between is written: what was a copy of it is still one of the first
	expectBlock(t, dead.Copies, block(ret(2), mov(1, 0), mov(2, 1), number(1), out(1)), block(ret(0), mov(1, 0), mov(2, 0), number(1), out(1)))
	// the first is written: none is a copy any more, nor of each other
	expectBlock(t, dead.Copies, block(ret(2), mov(1, 0), mov(2, 1), number(0), list(3, 0, 1, 2)), block(ret(2), mov(1, 0), mov(2, 0), number(0), list(3, 0, 1, 2)))
	// and is then itself a copy
	expectBlock(t, dead.Copies, block(ret(1), mov(1, 0), mov(0, 2), out(0)), block(ret(1), mov(1, 0), mov(0, 2), out(2)))
	// in another order
	expectBlock(t, dead.Copies, block(ret(2), mov(2, 1), mov(1, 0), out(2)), block(ret(2), mov(2, 1), mov(1, 0), out(2)))
	expectBlock(t, dead.Copies, block(ret(4), mov(1, 0), mov(3, 1), mov(1, 5), mov(4, 1), out(3)), block(ret(5), mov(1, 0), mov(3, 0), mov(1, 5), mov(4, 5), out(0)))
}

// writers are Ins of each Op that writes r, and reads others.
func writers(r int) []api.RIns {
	return code(number(r), mov(r, 5), bin(api.OAdd, r, 5, 6), un(api.ONot, r, 5), call(1, r, 5), list(r, 5, 6), call(1, r), list(r))
}

// A copy ends where it is written, and where what it is a copy of is, by whatever Op; another write does not end it.
func TestCopiesEnd(t *testing.T) {
	for n, i := range writers(1) {
		expectBlock(t, dead.Copies, block(ret(0), mov(1, 0), out(1), i, out(0)), block(ret(0), mov(1, 0), out(0), i, out(0)))
		if i.Op != api.RMov {
			expectSame(t, dead.Copies, block(ret(1), mov(1, 0), i, out(1)))
		}
		source, other := writers(0)[n], writers(2)[n]
		expectBlock(t, dead.Copies, block(ret(1), mov(1, 0), out(1), source, out(1)), block(ret(1), mov(1, 0), out(0), source, out(1)))
		expectBlock(t, dead.Copies, block(ret(1), mov(1, 0), other, out(1)), block(ret(0), mov(1, 0), other, out(0)))
	}
	// what does not write ends none, though it has the registers' numbers
	expectBlock(t, dead.Copies, block(ret(1), mov(1, 0), out(0), tick(1), out(1)), block(ret(0), mov(1, 0), out(0), tick(1), out(0)))
	// and begins again with the next RMov
	expectBlock(t, dead.Copies, block(ret(1), mov(1, 0), number(0), out(1), mov(1, 0), out(1)), block(ret(0), mov(1, 0), number(0), out(1), mov(1, 0), out(0)))
	expectBlock(t, dead.Copies, block(ret(1), mov(1, 0), number(1), out(1), mov(1, 0)), block(ret(0), mov(1, 0), number(1), out(1), mov(1, 0)))
	expectBlock(t, dead.Copies, block(ret(1), mov(1, 0), mov(1, 2), number(0), out(1)), block(ret(2), mov(1, 0), mov(1, 2), number(0), out(2)))
	expectBlock(t, dead.Copies, block(ret(1), mov(1, 0), mov(1, 2), number(2), out(1)), block(ret(1), mov(1, 0), mov(1, 2), number(2), out(1)))
}

// An RMov of a register to itself makes no copy. It is a write all the same.
func TestCopiesToThemselves(t *testing.T) {
	expectSame(t, dead.Copies, block(ret(1), mov(1, 1), out(1)))
	expectSame(t, dead.Copies, block(ret(1), mov(1, 0), mov(0, 0), out(1)))
	// one that is told so
	expectBlock(t, dead.Copies, block(ret(1), mov(1, 0), mov(0, 1), out(1), out(0)), block(ret(1), mov(1, 0), mov(0, 0), out(1), out(0)))
	expectBlock(t, dead.Copies, block(ret(2), mov(1, 0), mov(2, 1), mov(0, 2), out(1)), block(ret(2), mov(1, 0), mov(2, 0), mov(0, 0), out(1)))
	// one that is told otherwise
	expectBlock(t, dead.Copies, block(ret(1), mov(1, 0), mov(1, 1), out(1)), block(ret(0), mov(1, 0), mov(1, 0), out(0)))
	expectBlock(t, dead.Copies, block(ret(2), mov(1, 0), mov(2, 1), mov(1, 1), out(1)), block(ret(0), mov(1, 0), mov(2, 0), mov(1, 0), out(0)))
	// the same copy twice
	expectBlock(t, dead.Copies, block(ret(1), mov(1, 0), mov(1, 0)), block(ret(0), mov(1, 0), mov(1, 0)))
}

// An Ins that reads what it writes reads it first.
func TestCopiesReadAheadOfTheWrite(t *testing.T) {
	expectBlock(t, dead.Copies, block(ret(1), mov(1, 0), un(api.ONeg, 1, 1), out(1)), block(ret(1), mov(1, 0), un(api.ONeg, 1, 0), out(1)))
	expectBlock(t, dead.Copies, block(ret(1), mov(1, 0), un(api.ONeg, 0, 1), out(1)), block(ret(1), mov(1, 0), un(api.ONeg, 0, 0), out(1)))
	expectBlock(t, dead.Copies, block(ret(1), mov(1, 0), bin(api.OAdd, 1, 1, 1)), block(ret(1), mov(1, 0), bin(api.OAdd, 1, 0, 0)))
	expectBlock(t, dead.Copies, block(ret(1), mov(1, 0), call(1, 0, 1, 0)), block(ret(1), mov(1, 0), call(1, 0, 0, 0)))
	expectBlock(t, dead.Copies, block(ret(1), mov(1, 0), list(1, 1, 2, 1)), block(ret(1), mov(1, 0), list(1, 0, 2, 0)))
	// two that change places by a third
	expectSame(t, dead.Copies, block(ret(2), mov(2, 0), mov(0, 1), mov(1, 2)))
	expectBlock(t, dead.Copies, block(ret(2), mov(2, 0), out(2), mov(0, 1), out(0), mov(1, 2), out(1), out(0)), block(ret(2), mov(2, 0), out(0), mov(0, 1), out(1), mov(1, 2), out(2), out(0)))
}

// At a block's start there is no copy, wherever one comes from, and whether it is come to or not.
func TestCopiesStayInTheirBlock(t *testing.T) {
	expect(t, dead.Copies,
		fn(0, 3, block(jump(1), mov(1, 0)), block(br(1, 2, 1), out(1), tick(1)), block(ret(1))),
		fn(0, 3, block(jump(1), mov(1, 0)), block(br(1, 2, 1), out(1), tick(1)), block(ret(1))))
	expect(t, dead.Copies,
		fn(0, 3, block(br(1, 0, 1), out(1), mov(1, 0), tick(1)), block(ret(1), mov(2, 1), out(2)), block(ret(2), mov(2, 0))),
		fn(0, 3, block(br(0, 0, 1), out(1), mov(1, 0), tick(1)), block(ret(1), mov(2, 1), out(1)), block(ret(0), mov(2, 0))))
	// two blocks with the same Ins at the same places
	expect(t, dead.Copies,
		fn(0, 3, block(jump(1), mov(1, 0), number(0)), block(ret(1), mov(1, 0)), block(ret(1), number(1))),
		fn(0, 3, block(jump(1), mov(1, 0), number(0)), block(ret(0), mov(1, 0)), block(ret(1), number(1))))
}

// What stands in fields that an Op or an end does not have is no register that is read, nor one that is written.
func TestCopiesInOtherFields(t *testing.T) {
	whole := api.RIns{D: 1, A: 1, B: 1, N: 1, Deep: 1, K: val.Int(1), L: []int{1, 1}}
	for op := -1; op <= 10; op++ {
		i, want := whole, whole
		i.Op, want.Op = op, op
		switch op {
		case api.RMov, api.RUn, api.ROut:
			want.A = 0
		case api.RBin:
			want.A, want.B = 0, 0
		case api.RCall, api.RList:
			want.L = []int{0, 0}
		}
		end := ret(1)
		if op == api.RMov || op == api.ROut || op == api.RTick || op < api.RConst || op > api.RList {
			end = ret(0) // 1 is still a copy, or one again
		}
		expectBlock(t, dead.Copies, block(ret(1), mov(1, 0), i), block(end, mov(1, 0), want))
	}
	for _, op := range []int{math.MinInt, -1, 0, 9, 32, 99, 1<<32 + api.RMov, math.MaxInt} {
		odd := api.RIns{Op: op, D: 0, A: 1, B: 1, L: []int{1}}
		expectBlock(t, dead.Copies, block(ret(1), mov(1, 0), odd), block(ret(0), mov(1, 0), odd))
		odd.D, odd.A = 3, 4
		expectSame(t, dead.Copies, block(ret(3), odd, out(3)))
	}
	for _, kind := range []int{math.MinInt, -1, 0, api.TJump, 4, 99, 1<<32 + api.TRet, math.MaxInt} {
		expectSame(t, dead.Copies, block(api.RTerm{Kind: kind, A: 1, To: 0, Else: 1}, mov(1, 0)))
	}
}

// Nothing else of a function is changed.
func TestCopiesKeepAllElse(t *testing.T) {
	l := val.List([]api.Value{val.Int(1), val.Text("a")})
	f := fn(8, 9, block(br(1, 1, 0), deep(2, mov(1, 0)), deep(9, konst(2, l)), deep(1, bin(api.OGet, 3, 2, 1)), tick(4095), deep(7, call(3, 4, 1))), block(ret(3)))
	f.Name = "name"
	want := plain(f)
	want.Blocks[0].Term.A, want.Blocks[0].Ins[2].B, want.Blocks[0].Ins[4].L = 0, 0, []int{0}
	expect(t, dead.Copies, f, want)
	for _, p := range []pass{dead.Copies, dead.Unreach, dead.Sweep, dead.Run} {
		if g := p(f); g.Name != "name" || g.Params != 8 || g.Regs != 9 {
			t.Error(g)
		}
	}
}

// A number that names no register is told as any other, whatever Regs says; but -1, which is what live.Def tells where there is none, is never written.
func TestCopiesOfRegistersThatAreNone(t *testing.T) {
	for _, r := range []int{-2, -65, 9, 64, 199, 200, 256, 1 << 40, math.MinInt, math.MaxInt} {
		expectBlock(t, dead.Copies, block(ret(r), mov(r, 0), list(1, r, 0)), block(ret(0), mov(r, 0), list(1, 0, 0)))
		expectBlock(t, dead.Copies, block(ret(1), mov(1, r), list(2, r, 1)), block(ret(r), mov(1, r), list(2, r, r)))
		expectSame(t, dead.Copies, block(ret(1), mov(1, r), number(r), out(1)))
		expectSame(t, dead.Copies, block(ret(r), mov(r, r), out(r)))
	}
	expectSame(t, dead.Copies, block(ret(-1), mov(-1, 0), out(-1)))
	expectBlock(t, dead.Copies, block(ret(1), mov(1, -1), number(-1), tick(1), out(1)), block(ret(-1), mov(1, -1), number(-1), tick(1), out(-1)))
}

// Many copies of one register end at once, and many others stay.
func TestManyCopies(t *testing.T) {
	var l, all []api.RIns
	for r := 2; r < 200; r++ {
		l = append(l, mov(r, r%2))
		all = append(all, out(r))
	}
	ahead := slices.Concat(l, code(number(0)), all)
	want := slices.Clone(ahead)
	for k, i := range want {
		if i.Op == api.ROut && i.A%2 == 1 {
			want[k] = out(1)
		}
	}
	expect(t, dead.Copies, fn(0, 200, block(ret(198), ahead...)), fn(0, 200, block(ret(198), want...)))
	expect(t, dead.Copies, fn(0, 200, block(ret(199), ahead...)), fn(0, 200, block(ret(1), want...)))
}
