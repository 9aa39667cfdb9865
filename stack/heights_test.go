package stack_test

import (
	"fmt"
	"math"
	"slices"
	"testing"

	"ratline/api"
	"ratline/stack"
	"ratline/val"
)

// program is one whose main (2 locals, 2 constants) has that code; beside it f of 1 parameter, g of 8, and h of none.
func program(l ...api.SIns) api.Prog {
	nils := []api.Value{val.Nil()}
	back := code(konst(0), ret())
	return api.Prog{Fns: []api.SFn{
		{Name: "main", Locals: 2, Consts: []api.Value{val.Int(1), val.Text("a")}, Code: l},
		{Name: "f", Params: 1, Locals: 1, Consts: nils, Code: back},
		{Name: "g", Params: 8, Locals: 9, Consts: nils, Code: back},
		{Name: "h", Consts: nils, Code: back},
	}}
}

// expect holds Heights, Virtual and Check of p, whose first function is main, against what they should answer.
func expect(t *testing.T, p api.Prog, want []int, virtual int, e api.Errno) {
	t.Helper()
	h, eh := stack.Heights(p, 0)
	if eh != e || !slices.Equal(h, want) || e != api.OK && h != nil {
		t.Errorf("Heights of %s: %s, %d; not %s, %d", short(p), short(h), eh, short(want), e)
	}
	if n, ev := stack.Virtual(p, 0); n != virtual || ev != e {
		t.Errorf("Virtual of %s: %d, %d; not %d, %d", short(p), n, ev, virtual, e)
	}
	if ec := stack.Check(p); ec != e {
		t.Errorf("Check of %s: %d, not %d", short(p), ec, e)
	}
}

func expectError(t *testing.T, e api.Errno, p api.Prog) {
	t.Helper()
	expect(t, p, nil, 0, e)
}

// Promise 7.2: good code, its heights and its greatest height.

func TestGoodCode(t *testing.T) {
	c := konst(0)
	for _, x := range []struct {
		code    []api.SIns
		heights []int
		virtual int
	}{
		// straight lines
		{code(c, ret()), []int{0, 1}, 3}, {code(konst(1), out(), load(1), ret()), []int{0, 1, 0, 1}, 3},
		{code(c, c, bin(api.OAdd), ret()), []int{0, 1, 2, 1}, 4}, {code(c, un(api.ONot), store(0), load(0), ret()), []int{0, 1, 1, 0, 1}, 3},
		{code(c, c, c, pop(), list(2), ret()), []int{0, 1, 2, 3, 2, 1}, 5}, {code(list(0), ret()), []int{0, 1}, 3}, {code(c, c, c, ret()), []int{0, 1, 2, 3}, 5},
		{code(tick(1), tick(1), c, ret()), []int{0, 0, 0, 1}, 3},
		// what is not come to
		{code(c, ret(), c), []int{0, 1, -1}, 3}, {code(c, ret(), pop()), []int{0, 1, -1}, 3}, {code(c, ret(), jump(2)), []int{0, 1, -1}, 3}, {code(c, ret(), c, jump(2)), []int{0, 1, -1, -1}, 3}, {code(c, ret(), c, call(1, 1)), []int{0, 1, -1, -1}, 3}, {code(jump(3), c, jump(1), c, ret()), []int{0, -1, -1, 0, 1}, 3}, {code(c, ret(), c, c, c, c), []int{0, 1, -1, -1, -1, -1}, 3}, {code(jump(2), jump(4), c, ret(), call(3, 0)), []int{0, -1, 0, 1, -1}, 3},
		// two ways that meet, and two that are one
		{code(c, brz(4), c, jump(5), c, ret()), []int{0, 1, 0, 1, 0, 1}, 3}, {code(c, brz(2), c, ret()), []int{0, 1, 0, 1}, 3}, {code(c, c, brz(4), un(api.OLen), ret()), []int{0, 1, 2, 1, 1}, 4}, {code(c, brz(4), c, ret(), c, c, ret()), []int{0, 1, 0, 1, 0, 1, 2}, 4},
		{code(c, brz(3), tick(1), c, ret()), []int{0, 1, 0, 0, 1}, 3}, {code(jump(3), c, ret(), jump(1)), []int{0, 0, 1, 0}, 3},
		// loops
		{code(tick(7), c, brz(0), c, ret()), []int{0, 0, 1, 0, 1}, 3}, {code(tick(7), jump(0)), []int{0, 0}, 2}, {code(jump(1), tick(7), jump(0)), []int{0, 0, 0}, 2}, {code(c, brz(6), c, out(), tick(1), jump(0), c, ret()), []int{0, 1, 0, 1, 0, 0, 0, 1}, 3},
		{code(c, brz(7), c, brz(5), tick(1), tick(2), jump(0), c, ret()), []int{0, 1, 0, 1, 0, 0, 0, 0, 1}, 3}, {code(c, tick(1), c, brz(1), ret()), []int{0, 1, 1, 2, 1}, 4}, {code(c, tick(1), c, brz(0), c, ret()), nil, 0},
		{code(c, brz(8), c, brz(6), tick(1), jump(2), tick(2), jump(0), c, ret()), []int{0, 1, 0, 1, 0, 0, 0, 0, 0, 1}, 3},
		// calls
		{code(c, tick(1), call(1, 1), ret()), []int{0, 1, 1, 1}, 3}, {code(tick(1), call(3, 0), ret()), []int{0, 0, 1}, 3}, {code(tick(1), call(0, 0), ret()), []int{0, 0, 1}, 3}, {code(c, c, c, c, c, c, c, c, tick(1), call(2, 8), ret()), []int{0, 1, 2, 3, 4, 5, 6, 7, 8, 8, 1}, 10}, {code(jump(1), tick(1), call(3, 0), ret()), []int{0, 0, 0, 1}, 3}, {code(tick(1), call(3, 0), brz(0), c, ret()), []int{0, 0, 1, 0, 1}, 3},
		{code(tick(1), call(3, 0), pop(), jump(0)), []int{0, 0, 1, 0}, 3}, {code(c, ret(), jump(4), tick(1), call(3, 0)), []int{0, 1, -1, -1, -1}, 3}, {code(tick(1), call(3, 0), ret(), jump(1)), []int{0, 0, 1, -1}, 3},
	} {
		e := api.OK
		if x.heights == nil {
			e = api.ErrStack
		}
		expect(t, program(x.code...), x.heights, x.virtual, e)
	}
}

func TestGoodOperands(t *testing.T) {
	behind := func(i api.SIns) { // one that is not come to
		t.Helper()
		expect(t, program(konst(0), ret(), i), []int{0, 1, -1}, 3, api.OK)
	}
	for op := 1; op <= 14; op++ {
		behind(bin(op))
	}
	for op := 15; op <= 20; op++ {
		behind(un(op))
	}
	for _, i := range code(konst(0), konst(1), load(0), load(1), store(0), store(1), pop(), jump(0), jump(2), brz(0), brz(2), call(0, 0), call(1, 1), call(2, 8), call(3, 0), ret(), out(), tick(1), tick(4095), list(0), list(64)) {
		behind(i)
	}
}

// Promise 7.2: operands that may not be, wherever they stand, and Ops that are none.

func TestWrongOperands(t *testing.T) {
	wrong := code(konst(-1), konst(2), load(-1), load(2), store(-1), store(2), bin(0), bin(15), bin(20), bin(-1), bin(21), un(0), un(1), un(14), un(21), un(-1), jump(-1), jump(3), brz(-1), brz(3), call(-1, 0), call(4, 0), call(4, 1), call(1, 0), call(1, 2), call(0, 1), call(0, -1), call(2, 7), call(2, 9), call(3, 8), tick(0), tick(-1), tick(4096), list(-1), list(65))
	for op := 1; op <= 13; op++ {
		for _, far := range []int{math.MinInt, math.MaxInt, 1 << 32, -1 << 32} {
			wrong = append(wrong, ins(op, far))
		}
	}
	for _, op := range []int{0, -1, 14, 32, 256 + 1, math.MinInt, math.MaxInt} {
		wrong = append(wrong, ins(op), ins(op, 1), ins(op, 0, 1))
	}
	good := code(konst(0), load(0), store(0), pop(), bin(1), un(15), jump(0), brz(0), ret(), out(), tick(1), list(1))
	for _, i := range good {
		for _, b := range []int{1, -1, math.MinInt, math.MaxInt} {
			wrong = append(wrong, ins(i.Op, i.A, b))
		}
	}
	for _, op := range []int{api.SPop, api.SRet, api.SOut} {
		wrong = append(wrong, ins(op, 1), ins(op, -1), ins(op, 2, 2))
	}
	for _, i := range wrong {
		expectError(t, api.ErrForm, program(konst(0), ret(), i))
		expectError(t, api.ErrForm, program(i, konst(0), ret()))
		expectError(t, api.ErrForm, program(konst(0), i, ret()))
	}
}

// The lists of operands are those of the function and of the program as they stand.
func TestOperandsOfOtherLists(t *testing.T) {
	for _, n := range []int{0, 1, 3, 64} {
		p := program(konst(0), ret(), load(n-1))
		p.Fns[0].Locals = n
		q := program(konst(0), ret(), store(n))
		q.Fns[0].Locals = n
		if _, e := stack.Heights(p, 0); (e == api.OK) != (n > 0) {
			t.Error(n, e)
		}
		expectError(t, api.ErrForm, q)
	}
	p := program(konst(0), ret())
	p.Fns[0].Consts = nil
	expectError(t, api.ErrForm, p)
	p = program(list(0), ret())
	p.Fns[0].Consts = nil
	expect(t, p, []int{0, 1}, 3, api.OK)
	p = program(konst(999), ret())
	p.Fns[0].Consts = make([]api.Value, 1000)
	expect(t, p, []int{0, 1}, 3, api.OK)
	// A call is held against the other function's Params, whatever else is wrong there.
	p = program(konst(0), konst(0), tick(1), call(1, 2), ret())
	p.Fns[1] = api.SFn{Params: 2}
	if h, e := stack.Heights(p, 0); e != api.OK || !slices.Equal(h, []int{0, 1, 2, 2, 1}) {
		t.Error(h, e)
	}
	for _, params := range []int{-1, math.MinInt} {
		p.Fns[0].Code, p.Fns[1].Params = code(tick(1), call(1, params), ret()), params
		if h, e := stack.Heights(p, 0); e != api.OK || !slices.Equal(h, []int{0, 0, 1}) {
			t.Error(h, e)
		}
	}
	for _, params := range []int{9, 65, math.MaxInt} {
		p.Fns[0].Code, p.Fns[1].Params = code(konst(0), tick(1), call(1, params), ret()), params
		if h, e := stack.Heights(p, 0); e != api.ErrStack || h != nil {
			t.Error(h, e)
		}
	}
}

// Promise 7.2: the bounds of a function.

func TestFunctionBounds(t *testing.T) {
	for _, c := range []struct {
		params, locals int
		e              api.Errno
	}{
		{0, 0, api.OK}, {0, 1, api.OK}, {1, 1, api.OK}, {8, 8, api.OK}, {8, 64, api.OK}, {0, 64, api.OK}, {7, 8, api.OK},
		{-1, 0, api.ErrForm}, {-1, -1, api.ErrForm}, {9, 9, api.ErrForm}, {9, 64, api.ErrForm}, {8, 7, api.ErrForm}, {1, 0, api.ErrForm}, {0, -1, api.ErrForm}, {0, 65, api.ErrForm}, {8, 65, api.ErrForm}, {math.MinInt, 3, api.ErrForm}, {math.MaxInt, math.MaxInt, api.ErrForm}, {0, math.MinInt, api.ErrForm}, {0, math.MaxInt, api.ErrForm},
	} {
		p := program(konst(0), ret())
		p.Fns[1].Params, p.Fns[1].Locals = c.params, c.locals
		if h, e := stack.Heights(p, 1); e != c.e || (e == api.OK) != slices.Equal(h, []int{0, 1}) {
			t.Error(c, h, e)
		}
		want := 0
		if c.e == api.OK {
			want = c.locals + 1
		}
		if n, e := stack.Virtual(p, 1); e != c.e || n != want {
			t.Error(c, n, e)
		}
		if e := stack.Check(p); e != c.e {
			t.Error(c, e)
		}
	}
}

func TestCodeBounds(t *testing.T) {
	expectError(t, api.ErrForm, program())
	expectError(t, api.ErrForm, program(code()...))
	expectError(t, api.ErrStack, program(konst(0)))
	line := func(n int) []api.SIns { return append(slices.Repeat(code(tick(1)), n-2), konst(0), ret()) }
	heights := make([]int, 1000)
	heights[999] = 1
	expect(t, program(line(1000)...), heights, 3, api.OK)
	expect(t, program(line(999)...), heights[1:], 3, api.OK)
	expectError(t, api.ErrForm, program(line(1001)...))
	expectError(t, api.ErrForm, program(line(1<<20)...))
	expectError(t, api.ErrForm, program(slices.Repeat(code(konst(0), ret()), 501)...))
}

// holdsItself is a list that has itself in it.
func holdsItself() api.Value {
	v := api.Value{Kind: api.VList, L: make([]api.Value, 2)}
	v.L[1] = v
	return v
}

func TestConstsThatAreNotOk(t *testing.T) {
	deep := val.Nil()
	for range 25 {
		deep = api.Value{Kind: api.VList, L: []api.Value{deep}}
	}
	for _, v := range []api.Value{{Kind: 9}, {Kind: -1}, {N: 1}, {Kind: api.VInt, S: "a"}, {Kind: api.VCx, Z: complex(math.NaN(), 0)}, {Kind: api.VText, S: string(make([]byte, 1000))}, {Kind: api.VList, L: []api.Value{{Kind: 9}}}, deep, holdsItself()} {
		for at := range 2 {
			p := program(konst(0), ret())
			p.Fns[0].Consts[at] = v
			expectError(t, api.ErrForm, p)
		}
	}
	for _, v := range []api.Value{val.Nil(), val.Int(math.MinInt64), val.Cx(-1i), val.Text(string(make([]byte, 999))), deep.L[0]} {
		p := program(konst(0), ret())
		p.Fns[0].Consts[1] = v
		expect(t, p, []int{0, 1}, 3, api.OK)
	}
}

// Promise 7.2: what is come to beyond the end, too low, too high, or at two heights.

func TestErrStack(t *testing.T) {
	c := konst(0)
	for _, l := range [][]api.SIns{
		// beyond the end
		code(c), code(tick(1)), code(c, pop()), code(c, brz(0)), code(c, brz(3), c, jump(4), tick(1)), code(jump(1), c), code(c, brz(4), c, ret(), c), code(tick(1), call(3, 0)), code(list(0)),
		// below what it pops
		code(pop()), code(store(0), c, ret()), code(ret()), code(out(), c, ret()), code(brz(1), c, ret()), code(un(15), ret()), code(bin(1), ret()), code(c, bin(1), ret()), code(list(1), ret()), code(c, list(2), ret()), code(c, list(64), ret()), code(tick(1), call(1, 1), ret()), code(c, c, c, c, c, c, c, tick(1), call(2, 8), ret()), code(c, pop(), ret()), code(c, brz(4), c, ret(), ret()), code(tick(1), ret()),
		// at two heights
		code(c, jump(0)), code(c, tick(1), jump(0)), code(c, brz(3), c, c, ret()), code(c, c, brz(4), c, ret()), code(c, c, brz(4), pop(), c, ret()), code(c, tick(1), c, c, brz(1), ret()), code(c, brz(1)), code(c, c, brz(2), ret()), code(c, brz(0), pop(), ret()),
	} {
		expectError(t, api.ErrStack, program(l...))
	}
}

func TestGreatestStack(t *testing.T) {
	line := func(n int, l ...api.SIns) []api.SIns { return append(slices.Repeat(code(konst(0)), n), l...) }
	heights := make([]int, 65)
	for i := range heights {
		heights[i] = i
	}
	expect(t, program(line(64, ret())...), heights, 66, api.OK)
	expect(t, program(line(63, load(0), ret())...), heights, 66, api.OK)
	expect(t, program(line(63, list(0), ret())...), heights, 66, api.OK)
	expect(t, program(line(64, list(64), ret())...), append(slices.Clone(heights), 1), 66, api.OK)
	expect(t, program(line(64, bin(1), ret())...), append(slices.Clone(heights), 63), 66, api.OK)
	expect(t, program(line(64, un(15), ret())...), append(slices.Clone(heights), 64), 66, api.OK)
	expectError(t, api.ErrStack, program(line(65, ret())...))
	expectError(t, api.ErrStack, program(line(65, pop(), ret())...))
	for _, i := range code(konst(1), load(1), list(0)) {
		expectError(t, api.ErrStack, program(line(64, i, ret())...))
	}
	expectError(t, api.ErrStack, program(line(64, tick(1), call(3, 0), ret())...))
	expect(t, program(line(64, tick(1), call(1, 1), ret())...), append(slices.Clone(heights), 64, 64), 66, api.OK)
	// The most that Virtual can be.
	p := program(line(64, ret())...)
	p.Fns[0].Locals = 64
	expect(t, p, heights, 128, api.OK)
	p.Fns[0].Locals = 0
	expect(t, p, heights, 64, api.OK)
	// Only what is come to counts.
	expect(t, program(append(code(konst(0), ret()), line(70)...)...), append([]int{0, 1}, slices.Repeat([]int{-1}, 70)...), 3, api.OK)
}

// Promise 7.2: cycles and calls without an STick.

func TestErrTick(t *testing.T) {
	c := konst(0)
	for _, l := range [][]api.SIns{
		// cycles
		code(jump(0)), code(jump(1), jump(0)), code(c, pop(), jump(0)), code(c, brz(0), c, ret()), code(c, brz(3), jump(0), c, ret()), code(tick(1), jump(1)), code(tick(1), c, brz(1), jump(0)), code(jump(2), tick(1), c, brz(2), c, ret()), code(c, brz(4), tick(1), jump(0), jump(0)), code(c, brz(5), c, brz(0), jump(2), c, ret()), code(c, tick(1), c, brz(2), ret()), code(c, brz(2), c, brz(0), c, ret()), code(c, brz(3), tick(1), c, brz(0), c, ret()),
		// calls
		code(call(3, 0), ret()), code(c, call(1, 1), ret()), code(tick(1), c, call(1, 1), ret()), code(tick(1), call(3, 0), call(1, 1), ret()), code(call(0, 0), ret()), code(c, brz(2), call(3, 0), ret()), code(jump(1), call(3, 0), ret()),
		// jumps to calls
		code(c, brz(3), tick(1), call(3, 0), ret()), code(jump(2), tick(1), call(3, 0), ret()), code(c, tick(1), c, brz(5), tick(1), call(1, 1), ret()), code(c, tick(1), call(1, 1), c, brz(2), ret()), code(tick(1), call(3, 0), pop(), jump(1)),
	} {
		expectError(t, api.ErrTick, program(l...))
	}
}

// A great cycle has its STick anywhere.
func TestOneTickOfAGreatCycle(t *testing.T) {
	for _, n := range []int{2, 3, 50, 1000} {
		ring := make([]api.SIns, n)
		for at := range ring {
			ring[at] = jump((at + 1) % n)
		}
		expectError(t, api.ErrTick, program(ring...))
		for _, at := range []int{0, n / 3, n - 2} {
			one := slices.Clone(ring)
			one[at] = tick(1)
			expect(t, program(one...), make([]int, n), 2, api.OK)
		}
	}
}

// Promise 7.2: which error comes first.

func TestFirstError(t *testing.T) {
	c := konst(0)
	// ErrForm ahead of ErrStack ahead of ErrTick, wherever they stand.
	expectError(t, api.ErrForm, program(pop(), jump(0), konst(2)))
	expectError(t, api.ErrForm, program(jump(0), load(7)))
	expectError(t, api.ErrStack, program(c, call(1, 1), pop(), ret()))
	expectError(t, api.ErrStack, program(c, brz(3), jump(2), c))
	expectError(t, api.ErrStack, program(call(3, 0), bin(1), ret()))
	expectError(t, api.ErrStack, program(c, brz(0), pop()))
	expectError(t, api.ErrTick, program(c, brz(3), jump(2), c, ret(), pop()))
	// Function by function.
	bad := map[api.Errno][]api.SIns{api.ErrForm: nil, api.ErrStack: code(pop()), api.ErrTick: code(jump(0))}
	for e, l := range bad {
		for f, m := range bad {
			p := program(c, ret())
			p.Fns[1].Code, p.Fns[3].Code = l, m
			if got := stack.Check(p); got != e {
				t.Error(e, f, got)
			}
			if _, got := stack.Heights(p, 3); got != f {
				t.Error(e, f, got)
			}
			expectOthers(t, p)
		}
		// What Check asks itself comes ahead of all functions.
		p := program(l...)
		p.Main = 1
		if got := stack.Check(p); got != api.ErrForm {
			t.Error(e, got)
		}
	}
}

// expectOthers: a function's heights hang on no other function's code.
func expectOthers(t *testing.T, p api.Prog) {
	t.Helper()
	for _, fn := range []int{0, 2} {
		if h, e := stack.Heights(p, fn); e != api.OK || !slices.Equal(h, []int{0, 1}) {
			t.Error(fn, h, e)
		}
	}
}

// Promise 7.2: Check's own questions, and functions that are none.

func TestCheckOfPrograms(t *testing.T) {
	many := func(n, main int) api.Prog {
		return api.Prog{Fns: slices.Repeat([]api.SFn{{Locals: 1, Code: code(load(0), ret())}}, n), Main: main}
	}
	for _, c := range []struct {
		n, main int
		e       api.Errno
	}{
		{1, 0, api.OK}, {2, 0, api.OK}, {2, 1, api.OK}, {15, 14, api.OK}, {16, 0, api.OK}, {16, 15, api.OK},
		{0, 0, api.ErrForm}, {0, -1, api.ErrForm}, {1, 1, api.ErrForm}, {1, -1, api.ErrForm}, {16, 16, api.ErrForm}, {17, 0, api.ErrForm}, {17, 16, api.ErrForm}, {1 << 16, 3, api.ErrForm}, {3, math.MaxInt, api.ErrForm}, {3, math.MinInt, api.ErrForm},
	} {
		if e := stack.Check(many(c.n, c.main)); e != c.e {
			t.Error(c, e)
		}
	}
	if e := stack.Check(api.Prog{}); e != api.ErrForm {
		t.Error(e)
	}
	for _, params := range []int{1, 8, 9, -1} {
		p := many(3, 2)
		p.Fns[2].Params, p.Fns[2].Locals = params, 9
		if e := stack.Check(p); e != api.ErrForm {
			t.Error(params, e)
		}
	}
	// Heights and Virtual ask neither how many there are, nor for Main.
	p := many(17, 99)
	if h, e := stack.Heights(p, 16); e != api.OK || fmt.Sprint(h) != "[0 1]" {
		t.Error(h, e)
	}
	if n, e := stack.Virtual(p, 16); e != api.OK || n != 2 {
		t.Error(n, e)
	}
}

func TestNoSuchFunction(t *testing.T) {
	for _, p := range []api.Prog{{}, program(konst(0), ret())} {
		for _, fn := range []int{-1, len(p.Fns), 1000, math.MinInt, math.MaxInt} {
			if h, e := stack.Heights(p, fn); h != nil || e != api.ErrForm {
				t.Error(fn, h, e)
			}
			if n, e := stack.Virtual(p, fn); n != 0 || e != api.ErrForm {
				t.Error(fn, n, e)
			}
		}
	}
}
