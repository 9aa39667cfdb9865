package inline_test

import (
	"math"
	"math/rand"
	"reflect"
	"slices"
	"testing"

	"ratline/api"
	"ratline/hand"
	"ratline/inline"
	"ratline/likely"
	"ratline/sim"
	"ratline/val"
)

// Promise 17.3, W9, W10: every call ends and none panics, whatever it is given.

// A call of no function stays; what Check refuses beside that is laid open as it stands.
func TestCallsOfNone(t *testing.T) {
	for _, n := range []int{-1, 2, 77, math.MaxInt, math.MinInt} {
		p := prog(fn(0, 2, block(ret(0), call(n, 0, 1), call(1, 0), call(n, 1))), sized(2, 1))
		expectMade(t, p, expectLeft(t, p, 9, 3, 2), prog(fn(0, 3,
			block(jump(1), call(n, 0, 1), deep(1, null(2))),
			block(jump(2), deep(1, out(2)), deep(1, mov(0, 2))),
			block(ret(0), call(n, 1)),
		), p.Fns[1]))
	}
}

// A list that is too long or too short for the function: what has no register in it begins with nil, and what is no parameter is let go.
func TestListsOfOtherLengths(t *testing.T) {
	f := fn(2, 3, block(ret(1)))
	for _, x := range []struct {
		list  []int
		entry []api.RIns
	}{
		{nil, deeply(1, null(9), null(10), null(11))},
		{[]int{4}, deeply(1, mov(9, 4), null(10), null(11))},
		{[]int{4, 5, 6, 7, 8}, deeply(1, mov(9, 4), mov(10, 5), null(11))},
		{[]int{-1, 77}, deeply(1, mov(9, -1), mov(10, 77), null(11))},
	} {
		p := prog(fn(0, 9, block(ret(0), call(1, 3, x.list...))), f)
		expectMade(t, p, expectLeft(t, p, 9, 3, 0), prog(fn(0, 12, block(jump(1), x.entry...), block(jump(2), deep(1, mov(3, 10))), block(ret(0))), f))
	}
	// more parameters than registers, fewer than none
	for params, entry := range map[int][]api.RIns{9: deeply(1, mov(9, 4)), math.MaxInt: deeply(1, mov(9, 4)), -1: deeply(1, null(9)), math.MinInt: deeply(1, null(9))} {
		f := fn(params, 1, block(ret(0)))
		p := prog(fn(0, 9, block(ret(0), call(1, 3, 4, 5, 6))), f)
		expectMade(t, p, expectLeft(t, p, 9, 3, 0), prog(fn(0, 10, block(jump(1), entry...), block(jump(2), deep(1, mov(3, 9))), block(ret(0))), f))
	}
}

// What names no register and no block of a body names none in the caller, and what names no block of the caller names none of those that come in.
func TestNumbersOfNone(t *testing.T) {
	for _, n := range []int{-1, 3, 4, 77, math.MaxInt, math.MinInt, math.MaxInt - 1} {
		f := fn(0, 3, block(br(n, n, 1), mov(n, 0), mov(1, n), bin(api.OAdd, n, n, 2), list(2, 1, n), out(n), call(9, n, n, 0)), block(jump(n)), block(ret(n)))
		main := fn(0, 3, block(br(n, n, 0), call(1, n, n)), block(jump(n), out(n)))
		if n == 3 || n == 4 { // as many blocks as names
			main = fn(0, 3, block(br(n, n, 0), call(1, n, n)), block(jump(n), out(n)), block(ret(2)))
		}
		p := prog(main, f)
		want := []api.RBlock{
			block(jump(1), deeply(1, null(3), null(4), null(5))...),
			block(br(-1, -1, 2), deeply(1, mov(-1, 3), mov(4, -1), bin(api.OAdd, -1, -1, 5), list(5, 4, -1), out(-1), call(9, -1, -1, 3))...),
			block(jump(-1)),
			block(jump(4), deep(1, mov(n, -1))),
			block(br(n, -1, 0)),
			block(jump(-1), out(n)),
		}
		if n == 3 || n == 4 {
			want = append(want, block(ret(2)))
		}
		expectMade(t, p, expectLeft(t, p, 19, 3, 1), prog(fn(0, 6, want...), f))
	}
}

// What has no blocks is no body: the call leads nowhere. What has no registers takes none.
func TestEmptyFunctions(t *testing.T) {
	for _, regs := range []int{0, -1, math.MinInt} {
		p := prog(fn(0, regs, block(ret(0), tick(1), call(1, 7, 2), out(5))), fn(0, regs), fn(0, regs, block(ret(0), out(0))))
		expectMade(t, p, expectLeft(t, p, 0, 3, 0), prog(fn(0, 0, block(jump(-1), tick(1)), block(ret(0), out(5))), p.Fns[1], p.Fns[2]))
		p.Fns[0].Blocks[0].Ins[1].N = 2
		expectMade(t, p, expectLeft(t, p, 2, 3, 0), prog(fn(0, 0, block(jump(1), tick(1)), block(jump(2), deep(1, out(-1)), deep(1, mov(7, -1))), block(ret(0), out(5))), p.Fns[1], p.Fns[2]))
		expectLeft(t, p, 1, 3, 1)
	}
	expectMade(t, prog(fn(0, -5)), inline.Run(prog(fn(0, -5)), 9, 9), prog(fn(0, -5)))
}

// Ops and Kinds that are none: only a Deep is known of an Op.
func TestOpsOfNone(t *testing.T) {
	for _, n := range []int{math.MinInt, -1, 0, 9, 99, math.MaxInt} {
		odd, end := api.RIns{Op: n, D: 1, A: 1, B: 1, N: 1, Deep: 5, K: val.Int(3), L: []int{1}}, api.RTerm{Kind: n, A: 1, To: 0, Else: 1}
		f := fn(0, 2, api.RBlock{Ins: hand.Code(odd), Term: end})
		p := prog(fn(0, 2, api.RBlock{Ins: hand.Code(call(1, 0), odd), Term: end}), f)
		want := fn(0, 4, block(jump(1), deeply(1, null(2), null(3))...), api.RBlock{Ins: hand.Code(deep(1, odd)), Term: end}, api.RBlock{Ins: hand.Code(odd), Term: end})
		expectMade(t, p, expectLeft(t, p, 9, 3, 0), prog(want, f))
	}
}

// Fields that an Op or Kind does not have stand as they stood.
func TestFieldsOfNone(t *testing.T) {
	all := api.RIns{D: 1, A: 1, B: 1, N: 1, K: val.Int(3), L: []int{1, 1}}
	wants := []api.RIns{
		{Op: api.RConst, D: 3, A: 1, B: 1, L: []int{1, 1}}, {Op: api.RMov, D: 3, A: 3, B: 1, L: []int{1, 1}}, {Op: api.RBin, D: 3, A: 3, B: 3, L: []int{1, 1}}, {Op: api.RUn, D: 3, A: 3, B: 1, L: []int{1, 1}},
		{Op: api.ROut, D: 1, A: 3, B: 1, L: []int{1, 1}}, {Op: api.RTick, D: 1, A: 1, B: 1, L: []int{1, 1}}, {Op: api.RList, D: 3, A: 1, B: 1, L: []int{3, 3}},
	}
	for _, want := range wants {
		i := all
		i.Op, want.N, want.K, want.Deep = want.Op, 1, i.K, 1
		f := fn(0, 2, api.RBlock{Ins: hand.Code(i), Term: api.RTerm{Kind: api.TJump, A: 1, To: 0, Else: 1}}, api.RBlock{Term: api.RTerm{Kind: api.TRet, A: 1, To: 1, Else: 1}})
		p := prog(fn(0, 2, block(ret(0), call(1, 0))), f)
		expectMade(t, p, expectLeft(t, p, 9, 3, 0), prog(fn(0, 4,
			block(jump(1), deeply(1, null(2), null(3))...),
			api.RBlock{Ins: hand.Code(want), Term: api.RTerm{Kind: api.TJump, A: 1, To: 1, Else: 1}},
			block(jump(3), deep(1, mov(0, 3))),
			block(ret(0)),
		), f))
	}
}

// A K that is not Ok is nil, as everywhere, in bodies too.
func TestValuesThatAreNotOk(t *testing.T) {
	for _, v := range likely.OddValues() {
		f := fn(0, 1, block(ret(0), hand.Const(0, v)))
		p := prog(fn(0, 1, block(ret(0), call(1, 0), hand.Const(0, v))), f)
		v = val.Copy(v)
		f.Blocks = []api.RBlock{block(ret(0), hand.Const(0, v))}
		expectMade(t, p, inline.Run(p, 9, 3), prog(fn(0, 2, block(jump(1), deep(1, null(1))), block(jump(2), deeply(1, hand.Const(1, v), mov(0, 1))...), block(ret(0), hand.Const(0, v))), f))
	}
}

// Registers by far too many: together they are more than may be, not fewer.
func TestManyRegisters(t *testing.T) {
	for _, a := range []int{math.MinInt, -1, 0, 1, 200, 201, 1 << 62, math.MaxInt} {
		for _, b := range []int{math.MinInt, -1, 0, 1, 200, 201, 1 << 62, math.MaxInt} {
			p := prog(fn(0, a, block(ret(0), call(1, 0))), fn(0, b, block(ret(0))))
			want := 1
			if a <= 200 && b <= 200 && max(a, 0)+max(b, 0) <= 200 {
				want = 0
			}
			expectLeft(t, p, 9, 9, want)
		}
	}
}

// A call with a list longer than what stands in its place: once it is laid open, there is room for one that stands ahead.
func TestLongLists(t *testing.T) {
	p := prog(fn(0, 1, block(ret(0), call(1, 0), call(2, 0, make([]int, 9000)...))), sized(6000, 1), sized(2, 1))
	q := expectLeft(t, p, 14000, 9, 0)
	// the second one has the first registers
	if b := q.Fns[0].Blocks; len(b) != 5 || len(b[0].Ins) != 1 || b[0].Ins[0].D != 2 || len(b[2].Ins) != 1 || b[2].Ins[0].D != 1 {
		t.Error(short(q))
	}
	p.Fns[1] = sized(13999, 1)
	expectLeft(t, p, 14000, 9, 1)
}

// The greatest programs: as many functions as there may be, each with as many calls, registers, blocks as there may be.
func TestGreatPrograms(t *testing.T) {
	for _, x := range []struct {
		main, leaf api.RFn
		left       int
	}{
		{fn(0, 1, block(ret(0), calls(slices.Repeat([]int{15}, 4000)...)...)), sized(2, 1), 4000 - 199},
		{fn(0, 1, block(ret(0), calls(slices.Repeat([]int{15}, 4000)...)...)), chain(30), 4000 - 64},
		{fn(0, 1, block(ret(0), calls(slices.Repeat([]int{15}, 4000)...)...)), sized(1000, 1), 4000 - 5},
		{fn(0, 1, slices.Repeat([]api.RBlock{block(ret(0), calls(15)...)}, 1900)...), sized(2, 1), 1900 - 50},
		{fn(0, 1, slices.Repeat([]api.RBlock{block(ret(0), calls(15, 15)...)}, 1600)...), sized(2, 1), 3200 - 199},
	} {
		p := api.RProg{Fns: slices.Repeat([]api.RFn{x.main}, api.MaxFns)}
		p.Fns[15] = x.leaf
		sound(t, p)
		q := inline.Run(p, 14000, 8)
		for _, f := range q.Fns[:15] {
			if n := left(f); n != x.left {
				t.Error(n, x.left)
			}
		}
		sound(t, q)
		expectStay(t, prog(p.Fns...), prog(q.Fns[0]), 14000, 8)
	}
}

// Functions that Check refuses for their number, and such without registers, of which as many are laid open as blocks let.
func TestManyFunctions(t *testing.T) {
	p := prog(slices.Repeat([]api.RFn{fn(0, 0, block(ret(0), calls(999, 998)...))}, 1000)...)
	p.Fns[999] = fn(0, 0, block(ret(0)))
	p.Fns[998] = fn(0, 0, block(ret(0), calls(999, 999, 999)...))
	q := inline.Run(p, 99, 99)
	for n, f := range q.Fns[:998] {
		if len(f.Blocks) != 11 || left(f) != 0 {
			t.Fatal(n, len(f.Blocks))
		}
	}
	p = prog(fn(0, 0, block(ret(0), calls(slices.Repeat([]int{1}, 3000)...)...)), fn(0, 0))
	if q := expectLeft(t, p, 0, 1, 3000-1999); len(q.Fns[0].Blocks) != 2000 {
		t.Error(len(q.Fns[0].Blocks))
	}
}

// A row of functions, each of which calls the next one twice: there is no end of what could be laid open, but of the room.
func TestDoubledRows(t *testing.T) {
	for _, regs := range []int{0, 1} {
		p := prog(make([]api.RFn, 60)...)
		for n := range p.Fns {
			p.Fns[n] = fn(0, regs, block(ret(0), tick(1), deep(math.MinInt, call(n+1, 0)), tick(2), deep(math.MinInt, call(n+1, 0))))
		}
		q := inline.Run(p, 99, 8)
		expectStay(t, p, prog(q.Fns[0]), 99, 8)
		if n := len(q.Fns[0].Blocks); n < 399 || n > 2000 {
			t.Error(n)
		}
	}
}

// What is handed in is not changed, nor kept; what is answered is new memory; the same call answers the same.

func runs(size, deep int) hand.Change {
	return func(p api.RProg) api.RProg { return inline.Run(p, size, deep) }
}

func TestNothingIsTouched(t *testing.T) {
	r := rand.New(rand.NewSource(175))
	opened := 0
	for n := range 1500 {
		p := falling(r, likely.Registers(r.Intn, 1+r.Intn(8)))
		if n%3 == 0 {
			likely.Blemish(r.Intn, &p)
		}
		if s := hand.TouchedAll(p, reflect.DeepEqual, runs(400, 8), runs(12, 1)); s != "" {
			t.Fatal(s, short(p))
		}
		if hand.UnlikeAll(p, reflect.DeepEqual, runs(400, 8), runs(12, 1)) {
			t.Fatal(short(p))
		}
		for k, f := range inline.Run(p, 400, 8).Fns {
			opened += left(p.Fns[k]) - left(f)
		}
	}
	if opened < 300 {
		t.Error(opened)
	}
}

// Lists of Calls and Cyclic are their own, and nothing that they or Stays are given is changed.
func TestAnswersAreOwn(t *testing.T) {
	r := rand.New(rand.NewSource(176))
	for range 300 {
		p := falling(r, likely.Registers(r.Intn, 5))
		was := hand.Mapped(p, hand.Full)
		before := hand.Mapped(was, hand.Full)
		calls, cyclic := inline.Calls(p), inline.Cyclic(p)
		want, told := readCalls(p), slices.Clone(cyclic)
		for _, l := range calls {
			l = l[:cap(l)]
			for k := range l {
				l[k] = -7
			}
		}
		for k := range cyclic {
			cyclic[k] = !cyclic[k]
		}
		if got := inline.Calls(p); !slices.EqualFunc(got, want, slices.Equal[[]int]) || !slices.Equal(inline.Cyclic(p), told) {
			t.Fatal(got, want)
		}
		for k, f := range was.Fns {
			for _, b := range f.Blocks {
				for _, i := range b.Ins {
					inline.Stays(was, was, k, i, 20, 3)
				}
			}
		}
		inline.Calls(was)
		inline.Cyclic(was)
		for k, f := range was.Fns {
			if !reflect.DeepEqual(hand.Everything(f), hand.Everything(before.Fns[k])) {
				t.Fatal(short(was))
			}
		}
	}
}

// Wild numbers wherever there may be any.
func TestWildNumbers(t *testing.T) {
	far := []int{math.MinInt, -1, 0, 1, 2, math.MaxInt}
	for _, main := range far {
		for _, size := range far {
			for _, d := range far {
				for _, n := range far {
					i := api.RIns{Op: api.RCall, N: n, Deep: d, L: []int{n, d}}
					p := api.RProg{Main: main, Fns: []api.RFn{{Regs: size, Params: n, Blocks: []api.RBlock{{Ins: []api.RIns{i}}}}, {Regs: n, Params: size, Blocks: []api.RBlock{block(br(n, d, size), out(d))}}}}
					new(counts).expectRead(t, p, size, d)
					inline.Stays(p, p, main, i, size, d)
					if e := sim.Check(p); e == api.OK {
						t.Error(short(p))
					}
				}
			}
		}
	}
}
