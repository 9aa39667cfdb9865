package sim_test

import (
	"fmt"
	"math"
	"reflect"
	"slices"
	"strings"
	"testing"

	"ratline/api"
	"ratline/sim"
	"ratline/val"
)

// Promise 12.1, Check.

// expectCheck asks what Check tells of p, and that Run tells the same and nothing beside it, if that is an error.
func expectCheck(t *testing.T, what any, p api.RProg, want api.Errno) {
	t.Helper()
	if got := sim.Check(p); got != want {
		t.Errorf("%s: %d, want %d", short(what), got, want)
	}
	x, e := sim.Run(p, 3)
	if e != want || e != api.OK && !reflect.DeepEqual(x, api.Trace{}) {
		t.Errorf("Run of %s: %s, %d, want %d", short(what), short(x), e, want)
	}
}

// everyOp has each Op and, in blocks of their own, each Kind; its last block has each Op too, and is not come to. Each block has an RTick, so that its ends may lead anywhere.
func everyOp(params int) api.RFn {
	all := func() []api.RIns {
		return code(number(0, 5), mov(1, 0), bin(api.OEq, 2, 0, 1), un(api.ONot, 2, 2), out(2), tick(9), call(1, 3, 2, 1), list(4, 1, 1, 3))
	}
	return fn(params, 5, block(jump(1), all()...), block(br(2, 2, 1), tick(1)), block(ret(2), tick(1)), block(jump(2), all()...))
}

// base is a program whose functions 0 and 3 have everything, and whose functions 1 and 2 take two operands.
func base() api.RProg {
	two := fn(2, 2, block(ret(1)))
	return program(everyOp(0), two, two, everyOp(4))
}

func TestBaseIsSound(t *testing.T) {
	expectCheck(t, "base", base(), api.OK)
}

// errorOf is what is told of a number that should be within a span.
func errorOf(n, least, most int) api.Errno {
	if n < least || n > most {
		return api.ErrForm
	}
	return api.OK
}

// around are the numbers at the bounds of a span, and beyond them.
func around(least, most int) []int {
	return []int{math.MinInt, least - 1, least, most, most + 1, -1, 0, 1, -1 << 40, 1 << 40, math.MaxInt - 1, math.MaxInt}
}

// span is what a field may hold; one that an Op or Kind does not have may hold 0.
type span struct{ least, most int }

// insFields are the number fields of an Ins that may hold more than 0, in functions of 5 registers of a program as base is.
func insFields(op int) map[string]span {
	reg := span{0, 4}
	return []map[string]span{
		api.RConst: {"D": reg}, api.RMov: {"D": reg, "A": reg}, api.RBin: {"D": reg, "A": reg, "B": reg, "N": {1, 14}}, api.RUn: {"D": reg, "A": reg, "N": {15, 20}},
		api.RCall: {"D": reg, "N": {1, 2}}, api.ROut: {"A": reg}, api.RTick: {"N": {1, 4095}}, api.RList: {"D": reg},
	}[op]
}

// everywhere does a thing to each Ins of base that may be met by its place: in the first function and in the last one, in a block that is come to and in one that is not.
func everywhere(do func(what string, of func(*api.RProg) *api.RIns)) {
	for _, f := range []int{0, 3} {
		for _, b := range []int{0, 3} {
			for at := range 8 {
				what := fmt.Sprintf("fn %d block %d ins %d", f, b, at)
				do(what, func(p *api.RProg) *api.RIns { return &p.Fns[f].Blocks[b].Ins[at] })
			}
		}
	}
}

func TestNumbersOfIns(t *testing.T) {
	everywhere(func(what string, of func(*api.RProg) *api.RIns) {
		for _, field := range []string{"D", "A", "B", "N"} {
			p := base()
			s := insFields(of(&p).Op)[field]
			for _, n := range around(s.least, s.most) {
				reflect.ValueOf(of(&p)).Elem().FieldByName(field).SetInt(int64(n))
				expectCheck(t, fmt.Sprint(what, " ", field, " ", n), p, errorOf(n, s.least, s.most))
			}
		}
		p := base()
		for _, n := range around(0, math.MaxInt-1) {
			of(&p).Deep = n
			expectCheck(t, fmt.Sprint(what, " Deep ", n), p, errorOf(n, 0, math.MaxInt))
		}
		for _, n := range []int{math.MinInt, -1, 0, 9, 10, 12, 1 << 40, math.MaxInt} {
			p := base()
			of(&p).Op = n
			expectCheck(t, fmt.Sprint(what, " Op ", n), p, api.ErrForm)
			*of(&p) = api.RIns{Op: n}
			expectCheck(t, fmt.Sprint(what, " Op ", n), p, api.ErrForm)
		}
	})
}

// Every op of two, and every op of one, and no other.
func TestOps(t *testing.T) {
	for op := -30; op < 60; op++ {
		expectCheck(t, op, line(0, bin(op, 0, 0, 0)), errorOf(op, 1, 14))
		expectCheck(t, op, line(0, un(op, 0, 0)), errorOf(op, 15, 20))
	}
}

// notOk are values that are not.
func notOk() []api.Value {
	self := api.Value{Kind: api.VList, L: make([]api.Value, 2)}
	self.L[1] = self
	deep := val.Nil()
	for range 25 {
		deep = api.Value{Kind: api.VList, L: values(deep)}
	}
	return values(
		api.Value{Kind: 5}, api.Value{Kind: -1}, api.Value{Kind: math.MaxInt}, api.Value{N: 1}, api.Value{S: "a"}, api.Value{Z: 1}, api.Value{L: values(val.Nil())},
		api.Value{Kind: api.VInt, S: "a"}, api.Value{Kind: api.VText, N: 1}, api.Value{Kind: api.VCx, L: values(val.Nil())}, api.Value{Kind: api.VList, Z: 1i},
		api.Value{Kind: api.VCx, Z: complex(math.Inf(1), 0)}, api.Value{Kind: api.VCx, Z: complex(0, math.NaN())}, api.Value{Kind: api.VCx, Z: complex(math.Copysign(0, -1), 0)},
		api.Value{Kind: api.VText, S: strings.Repeat("x", 1000)}, api.Value{Kind: api.VList, L: make([]api.Value, 1000)}, api.Value{Kind: api.VList, L: values(api.Value{Kind: 9})}, deep, self)
}

// A K is Ok, and nil in an Ins that is no RConst.
func TestK(t *testing.T) {
	minus := complex(math.Copysign(0, -1), math.Copysign(0, -1))
	everywhere(func(what string, of func(*api.RProg) *api.RIns) {
		p := base()
		op := of(&p).Op
		for _, v := range notOk() {
			of(&p).K = v
			expectCheck(t, what+" K that is not Ok", p, api.ErrForm)
		}
		for _, v := range append(some(), val.Text(strings.Repeat("x", 999)), val.List(make([]api.Value, 999)), api.Value{Kind: api.VInt, Z: minus}) {
			want := api.ErrForm
			if op == api.RConst || v.Kind == api.VNil {
				want = api.OK
			}
			of(&p).K = v
			expectCheck(t, what+" K", p, want)
		}
		// what holds nothing in any of its fields is nil
		for _, v := range values(val.Nil(), api.Value{L: []api.Value{}}, api.Value{Z: minus, L: make([]api.Value, 0, 3)}) {
			of(&p).K = v
			expectCheck(t, what+" K that is nil", p, api.OK)
		}
	})
}

// L of an RCall has as many registers as the function takes, L of an RList at most 64, others none.
func TestLengthOfL(t *testing.T) {
	everywhere(func(what string, of func(*api.RProg) *api.RIns) {
		p := base()
		s := map[int]span{api.RCall: {2, 2}, api.RList: {0, 64}}[of(&p).Op]
		for _, n := range []int{0, 1, 2, 3, 8, 9, 63, 64, 65, 1000, 14000, 1 << 17} {
			of(&p).L = make([]int, n)
			expectCheck(t, fmt.Sprint(what, " L of ", n), p, errorOf(n, s.least, s.most))
		}
		for _, l := range [][]int{nil, {}, make([]int, 0, 5)} {
			of(&p).L = l
			expectCheck(t, fmt.Sprint(what, " empty L"), p, errorOf(0, s.least, s.most))
		}
	})
}

func TestRegistersOfL(t *testing.T) {
	everywhere(func(what string, of func(*api.RProg) *api.RIns) {
		p := base()
		if op := of(&p).Op; op != api.RCall && op != api.RList {
			return
		}
		for at := range of(&p).L {
			p := base()
			for _, n := range around(0, 4) {
				of(&p).L[at] = n
				expectCheck(t, fmt.Sprint(what, " L ", at, " ", n), p, errorOf(n, 0, 4))
			}
		}
		p = base()
		if of(&p).Op == api.RList {
			of(&p).L = make([]int, 64)
			for _, n := range around(0, 4) {
				of(&p).L[63] = n
				expectCheck(t, fmt.Sprint(what, " L 63 ", n), p, errorOf(n, 0, 4))
			}
		}
	})
}

// A call has as many operands as the function that it names takes, whichever that is.
func TestOperandsOfCalls(t *testing.T) {
	for params := range 9 {
		for given := range 11 {
			p := program(fn(0, 1, block(ret(0), tick(1), call(1, 0, make([]int, given)...))), fn(params, 9, block(ret(0))))
			expectCheck(t, fmt.Sprint(params, given), p, errorOf(given, params, params))
			// main, which takes none, and the function itself
			p = program(fn(params, 9, block(ret(0), tick(1), call(0, 0, make([]int, given)...))), fn(0, 1, block(ret(0))))
			p.Main = 1
			expectCheck(t, fmt.Sprint(params, given), p, errorOf(given, params, params))
			p.Fns[0].Blocks[0].Ins[1].N = 1
			expectCheck(t, fmt.Sprint(params, given), p, errorOf(given, 0, 0))
		}
	}
	// a function that takes what it may not
	for _, params := range []int{9, 10, -1, math.MinInt} {
		p := program(fn(0, 1, block(ret(0), tick(1), call(1, 0, make([]int, max(params, 0))...))), fn(params, 20, block(ret(0))))
		expectCheck(t, params, p, api.ErrForm)
	}
}

// termFields are the fields of an end that may hold more than 0.
func termFields(kind int) map[string]span {
	reg, to := span{0, 4}, span{0, 3}
	return []map[string]span{api.TJump: {"To": to}, api.TBr: {"A": reg, "To": to, "Else": to}, api.TRet: {"A": reg}}[kind]
}

func TestEnds(t *testing.T) {
	for _, f := range []int{0, 3} {
		for b := range 4 {
			what := fmt.Sprintf("fn %d block %d", f, b)
			for _, field := range []string{"A", "To", "Else"} {
				p := base()
				term := &p.Fns[f].Blocks[b].Term
				s := termFields(term.Kind)[field]
				for _, n := range around(s.least, s.most) {
					reflect.ValueOf(term).Elem().FieldByName(field).SetInt(int64(n))
					expectCheck(t, fmt.Sprint(what, " ", field, " ", n), p, errorOf(n, s.least, s.most))
				}
			}
			for _, kind := range []int{math.MinInt, -1, 0, 4, 5, 1 << 40, math.MaxInt} {
				p := base()
				p.Fns[f].Blocks[b].Term.Kind = kind
				expectCheck(t, fmt.Sprint(what, " Kind ", kind), p, api.ErrForm)
				p.Fns[f].Blocks[b].Term = api.RTerm{Kind: kind}
				expectCheck(t, fmt.Sprint(what, " Kind ", kind), p, api.ErrForm)
			}
		}
	}
}

func TestFunctions(t *testing.T) {
	one := fn(0, 1, block(ret(0)))
	for _, n := range []int{0, 1, 2, 15, 16, 17, 18, 1000} {
		p := program(slices.Repeat([]api.RFn{one}, n)...)
		expectCheck(t, n, p, errorOf(n, 1, 16))
		for _, at := range around(0, n-1) {
			p.Main = at
			if n <= 16 {
				expectCheck(t, fmt.Sprint(n, " Main ", at), p, errorOf(at, 0, n-1))
			}
		}
	}
	expectCheck(t, "no list", api.RProg{}, api.ErrForm)
	expectCheck(t, "an empty list", api.RProg{Fns: []api.RFn{}}, api.ErrForm)
	// RCall of the last function that there may be, and of one beyond
	for _, n := range around(0, 15) {
		p := program(slices.Repeat([]api.RFn{one}, 16)...)
		p.Fns[7] = fn(0, 1, block(ret(0), tick(1), call(n, 0)))
		expectCheck(t, n, p, errorOf(n, 0, 15))
	}
}

func TestParams(t *testing.T) {
	for _, n := range around(0, 8) {
		p := program(fn(0, 1, block(ret(0))), fn(n, 200, block(ret(0))))
		expectCheck(t, n, p, errorOf(n, 0, 8))
		p.Main = 1 // which has none
		expectCheck(t, n, p, errorOf(n, 0, 0))
	}
}

func TestRegs(t *testing.T) {
	for _, n := range around(1, 200) {
		expectCheck(t, n, program(fn(0, n, block(ret(0)))), errorOf(n, 1, 200))
		expectCheck(t, n, program(fn(0, n, block(ret(0))), fn(0, 1, block(ret(0)))), errorOf(n, 1, 200))
	}
	for params := range 9 {
		for regs := -1; regs < 11; regs++ {
			p := program(fn(0, 1, block(ret(0))), fn(params, regs, block(ret(0))))
			expectCheck(t, fmt.Sprint(params, regs), p, errorOf(regs, max(1, params), 200))
		}
	}
	for _, n := range []int{1, 2, 199, 200} { // the last register is one, the next is none
		expectCheck(t, n, program(fn(0, n, block(ret(n-1), mov(n-1, n-1)))), api.OK)
		expectCheck(t, n, program(fn(0, n, block(ret(n)))), api.ErrForm)
		expectCheck(t, n, program(fn(0, n, block(ret(0), out(n)))), api.ErrForm)
	}
}

func TestBlocks(t *testing.T) {
	for _, n := range []int{0, 1, 2, 1999, 2000, 2001, 5000} {
		p := program(fn(0, 1, slices.Repeat([]api.RBlock{block(ret(0))}, n)...))
		expectCheck(t, n, p, errorOf(n, 1, 2000))
		if n > 1 && n <= 2000 {
			p.Fns[0].Blocks[0].Term = jump(n - 1)
			expectCheck(t, n, p, api.OK)
			p.Fns[0].Blocks[0].Term = jump(n)
			expectCheck(t, n, p, api.ErrForm)
		}
	}
	expectCheck(t, "empty", program(fn(0, 1, []api.RBlock{}...)), api.ErrForm)
}

// sized is a function of that Size: of so many blocks, and RLists of so many registers.
func sized(size, blocks, list int) api.RFn {
	f := fn(0, 1, slices.Repeat([]api.RBlock{block(ret(0))}, blocks)...)
	l := &f.Blocks[blocks/2].Ins
	for left := size - blocks; left > 0; {
		n := min(list, left-1)
		*l = append(*l, api.RIns{Op: api.RList, L: make([]int, n)})
		left -= n + 1
	}
	return f
}

func TestMostSize(t *testing.T) {
	for _, blocks := range []int{1, 2, 1000, 2000} {
		for _, list := range []int{0, 1, 7, 64} {
			for size := 13998; size <= 14002; size++ {
				f := sized(size, blocks, list)
				if got := sim.Size(f); got != size {
					t.Fatal(got, size)
				}
				what := fmt.Sprint(size, blocks, list)
				expectCheck(t, what, program(f), errorOf(size, 1, 14000))
				expectCheck(t, what, program(fn(0, 1, block(ret(0))), f), errorOf(size, 1, 14000))
			}
		}
	}
	// 16 of them are as good as one
	expectCheck(t, 16, program(slices.Repeat([]api.RFn{sized(14000, 3, 5)}, 16)...), api.OK)
}

// Names are not asked.
func TestNames(t *testing.T) {
	for _, name := range []string{"", "main", "x y", "\xff", strings.Repeat("x", 1<<20)} {
		p := base()
		for i := range p.Fns {
			p.Fns[i].Name = name
		}
		expectCheck(t, name, p, api.OK)
	}
}

// ErrTick: a circle of blocks that are come to, and none of them has an RTick.
func TestCircles(t *testing.T) {
	for _, c := range []struct {
		want   api.Errno
		blocks []api.RBlock
	}{
		{14, []api.RBlock{block(jump(0))}},
		{0, []api.RBlock{block(jump(0), tick(1))}},
		{0, []api.RBlock{block(jump(0), number(0, 1), tick(1), number(0, 1))}},
		{14, []api.RBlock{block(jump(0), number(0, 1), out(0), list(1))}},
		// a branch whose To and Else are one, and one that leads to itself by either
		{14, []api.RBlock{block(br(0, 0, 0))}},
		{0, []api.RBlock{block(br(0, 0, 0), tick(1))}},
		{14, []api.RBlock{block(br(0, 0, 1)), block(ret(0))}},
		{14, []api.RBlock{block(br(0, 1, 0)), block(ret(0))}},
		{0, []api.RBlock{block(br(0, 1, 1)), block(ret(0))}},
		{14, []api.RBlock{block(br(0, 1, 1)), block(jump(0))}},
		// of two, of three: an RTick in any of them
		{14, []api.RBlock{block(jump(1)), block(jump(0))}},
		{0, []api.RBlock{block(jump(1), tick(1)), block(jump(0))}},
		{0, []api.RBlock{block(jump(1)), block(jump(0), tick(1))}},
		{14, []api.RBlock{block(jump(2)), block(jump(0)), block(jump(1))}},
		{0, []api.RBlock{block(jump(2)), block(jump(0), tick(1)), block(jump(1))}},
		{0, []api.RBlock{block(jump(2)), block(jump(0)), block(jump(1), tick(1))}},
		// an RTick ahead of the circle, behind it, and on another one
		{14, []api.RBlock{block(jump(1), tick(1)), block(br(0, 1, 2)), block(ret(0), tick(1))}},
		{14, []api.RBlock{block(br(0, 1, 2)), block(jump(0), tick(1)), block(br(0, 0, 1))}},
		{14, []api.RBlock{block(jump(1)), block(br(0, 2, 3), tick(1)), block(br(0, 2, 1)), block(ret(0))}},
		{0, []api.RBlock{block(jump(1)), block(br(0, 2, 3), tick(1)), block(br(0, 1, 1)), block(ret(0))}},
		// no circle: two ways that meet
		{0, []api.RBlock{block(br(0, 1, 2)), block(jump(3)), block(jump(3)), block(ret(0))}},
		// one that is not come to, or not left again
		{0, []api.RBlock{block(ret(0)), block(jump(1))}},
		{0, []api.RBlock{block(jump(3)), block(jump(2)), block(br(0, 1, 3)), block(ret(0))}},
		{14, []api.RBlock{block(jump(2)), block(jump(2)), block(jump(1))}},
		// one that no run comes to, though an end leads there
		{14, []api.RBlock{block(br(0, 1, 2), number(0, 0)), block(jump(1)), block(ret(0))}},
	} {
		p := mainOf(c.blocks...)
		expectCheck(t, p, p, c.want)
		// in a function that is not called too
		expectCheck(t, p, program(fn(0, 1, block(ret(0))), p.Fns[0]), c.want)
	}
}

// Long circles: as many blocks as may be.
func TestLongCircles(t *testing.T) {
	p := program(fn(0, 1, make([]api.RBlock, 2000)...))
	for n := range p.Fns[0].Blocks {
		p.Fns[0].Blocks[n] = block(br(0, (n+1)%2000, (n+7)%2000))
	}
	expectCheck(t, "long", p, api.ErrTick)
	for n := range 8 {
		p.Fns[0].Blocks[900+n].Ins = code(tick(1))
		want := api.ErrTick
		if n >= 6 { // no way leads over seven of them
			want = api.OK
		}
		expectCheck(t, n, p, want)
	}
}

// ErrTick: an RCall that does not stand right behind an RTick in its block, whether it is come to or not.
func TestCallsWithoutTicks(t *testing.T) {
	c, k := call(1, 0, 0), tick(1)
	for _, place := range []string{"come to", "not come to"} {
		for _, l := range [][]api.RIns{
			code(c), code(number(0, 1), c), code(mov(0, 0), c), code(bin(1, 0, 0, 0), c), code(un(16, 0, 0), c), code(out(0), c), code(list(0), c),
			code(k, c, c), code(k, out(0), c), code(k, k, mov(0, 0), c), code(k, c, k, c, mov(0, 0), c), code(c, k), code(c, k, c), code(k, c, out(0), c, k),
		} {
			expectPlaced(t, place, l, api.ErrTick)
		}
		for _, l := range [][]api.RIns{code(k, c), code(k, c, k, c), code(k, k, c), code(out(0), k, c, out(0))} {
			expectPlaced(t, place, l, api.OK)
		}
	}
	// an RTick last in the block ahead
	p := program(fn(0, 2, block(jump(1), k), block(ret(0), c)), fn(1, 1, block(ret(0))))
	expectCheck(t, p, p, api.ErrTick)
	// in the last function
	p = program(fn(0, 1, block(ret(0))), fn(1, 1, block(ret(0), c)))
	expectCheck(t, p, p, api.ErrTick)
}

// expectPlaced asks what is told of a program that has those Ins in a block.
func expectPlaced(t *testing.T, place string, l []api.RIns, want api.Errno) {
	t.Helper()
	blocks := []api.RBlock{block(ret(0), l...)}
	if place == "not come to" {
		blocks = []api.RBlock{block(ret(0)), block(ret(0), l...)}
	}
	p := program(fn(0, 2, blocks...), fn(1, 1, block(ret(0))))
	expectCheck(t, fmt.Sprint(place, " ", l), p, want)
}

// The first error: of the whole program, then function by function, and of a function ErrForm ahead of ErrTick.
func TestFirstError(t *testing.T) {
	good, form, ticks := fn(0, 1, block(ret(0))), fn(0, 1, block(ret(1))), fn(0, 1, block(jump(0)))
	both := fn(0, 1, block(jump(0)), block(ret(1)))
	callAndForm := fn(0, 1, block(ret(0), call(0, 0)), block(ret(1)))
	for _, c := range []struct {
		want api.Errno
		fns  []api.RFn
	}{
		{0, []api.RFn{good}}, {3, []api.RFn{form}}, {14, []api.RFn{ticks}}, {3, []api.RFn{both}}, {3, []api.RFn{callAndForm}},
		{14, []api.RFn{ticks, form}}, {3, []api.RFn{form, ticks}}, {14, []api.RFn{good, ticks, good, both}}, {3, []api.RFn{good, both, ticks}}, {14, []api.RFn{good, good, ticks}},
		{3, slices.Repeat([]api.RFn{ticks}, 17)}, {14, slices.Repeat([]api.RFn{ticks}, 16)},
	} {
		p := program(c.fns...)
		expectCheck(t, short(p), p, c.want)
		p.Main = len(c.fns)
		expectCheck(t, short(p), p, api.ErrForm)
	}
	p := program(ticks, fn(1, 1, block(ret(0))))
	p.Main = 1
	expectCheck(t, "Main has Params", p, api.ErrForm)
	// a call of a function that has too many Params is asked in its own place
	nine := fn(9, 9, block(ret(0)))
	expectCheck(t, "tick first", program(fn(0, 1, block(ret(0), call(1, 0, make([]int, 9)...))), nine), api.ErrTick)
	expectCheck(t, "form first", program(fn(0, 1, block(ret(0), call(1, 0, make([]int, 8)...))), nine), api.ErrForm)
}
