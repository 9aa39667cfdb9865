package sim_test

import (
	"fmt"
	"reflect"
	"slices"
	"strconv"
	"strings"
	"testing"

	"ratline/api"
	"ratline/hand"
	"ratline/ops"
	"ratline/sim"
	"ratline/val"
)

var (
	konst, mov, bin, un, call, list = hand.Const, hand.Mov, hand.Bin, hand.Un, hand.Call, hand.List
	out, tick, jump, br, ret        = hand.Out, hand.Tick, hand.Jump, hand.Br, hand.Ret
	code, block, fn                 = hand.Code, hand.Block, hand.Fn
)

func values(l ...api.Value) []api.Value   { return l }
func number(d int, n int64) api.RIns      { return konst(d, val.Int(n)) }
func row(l ...[]api.RIns) []api.RIns      { return slices.Concat(l...) }
func program(l ...api.RFn) api.RProg      { return api.RProg{Fns: l} }
func mainOf(l ...api.RBlock) api.RProg    { return program(fn(0, 6, l...)) }
func line(a int, l ...api.RIns) api.RProg { return mainOf(block(ret(a), l...)) }

// short is what is told of a thing that may be great.
func short(x any) string {
	s := fmt.Sprint(x)
	if len(s) > 600 {
		s = s[:600] + " .."
	}
	return s
}

// tell is a trace as a text: each tick as t and its number, each output as it is shown, and behind = the value and how the run ended.
func tell(x api.Trace) string {
	var s strings.Builder
	for _, e := range x.Events {
		switch {
		case e.Kind == api.ETick && reflect.DeepEqual(e.V, api.Value{}):
			s.WriteString("t" + strconv.Itoa(e.N) + " ")
		case e.Kind == api.EOut && e.N == 0 && val.Ok(e.V):
			s.WriteString(val.Show(e.V) + " ")
		default:
			s.WriteString(fmt.Sprint("odd", e))
		}
	}
	if !val.Ok(x.V) {
		return fmt.Sprint("odd", x.V)
	}
	return s.String() + "= " + val.Show(x.V) + " " + strconv.Itoa(int(x.E))
}

// expect asks what a run of p tells.
func expect(t *testing.T, p api.RProg, fuel int, want string) {
	t.Helper()
	if e := sim.Check(p); e != api.OK {
		t.Errorf("Check of %s: %d", short(p), e)
	}
	x, e := sim.Run(p, fuel)
	if got := tell(x); e != api.OK || got != want {
		t.Errorf("%s with %d: %s, %d, want %s", short(p), fuel, short(got), e, short(want))
	}
}

// Promise 12.1, Run: each Op and each Kind by itself.

func TestExample(t *testing.T) {
	for _, fuel := range []int{9, 1, 0, -1} {
		expect(t, line(0, number(0, 5)), fuel, "= 5 0")
	}
}

// some are values of all kinds.
func some() []api.Value {
	return values(val.Nil(), val.Int(0), val.Int(7), val.Int(-1<<63), val.Cx(0), val.Cx(2-1i), val.Text(""), val.Text("ab\n\"\\"), val.List(nil), val.List(values(val.Int(1), val.List(values(val.Text("c"))))))
}

func TestConst(t *testing.T) {
	for _, v := range some() {
		expect(t, line(0, konst(0, v)), 9, "= "+val.Show(v)+" 0")
		expect(t, line(3, konst(3, v), out(3), number(0, 9)), 9, val.Show(v)+" = "+val.Show(v)+" 0")
		expect(t, line(3, number(3, 9), konst(3, v)), 9, "= "+val.Show(v)+" 0")
	}
}

func TestMov(t *testing.T) {
	for _, v := range some() {
		expect(t, line(1, konst(0, v), mov(1, 0), number(0, 9)), 9, "= "+val.Show(v)+" 0")
		expect(t, line(0, konst(0, v), mov(0, 0)), 9, "= "+val.Show(v)+" 0")
	}
	expect(t, line(5, number(0, 1), number(1, 2), mov(2, 0), mov(0, 1), mov(1, 2), list(5, 0, 1, 2)), 9, "= [2, 1, 1] 0")
	expect(t, line(0, number(0, 1), mov(0, 4)), 9, "= nil 0")
}

// What no one wrote is nil, in main and in what is called.
func TestRegistersAtFirst(t *testing.T) {
	expect(t, line(5, list(5, 0, 1, 2, 3, 4, 5)), 9, "= [nil, nil, nil, nil, nil, nil] 0")
	p := program(fn(0, 9, block(ret(8), number(0, 1), number(1, 2), number(2, 3), number(3, 4), tick(7), call(1, 8, 3, 0))), fn(2, 6, block(ret(5), list(5, 0, 1, 2, 3, 4, 5))))
	expect(t, p, 9, "t7 = [4, 1, nil, nil, nil, nil] 0")
	great := program(fn(0, 200, block(ret(199))))
	expect(t, great, 9, "= nil 0")
	great.Fns[0].Blocks[0].Ins = code(number(199, 3), mov(0, 199), mov(198, 0), bin(api.OAdd, 199, 198, 0))
	expect(t, great, 9, "= 6 0")
}

// end is how a run ends that makes v, or errs.
func end(v api.Value, e api.Run) string {
	return "= " + val.Show(v) + " " + strconv.Itoa(int(e))
}

func TestEachOpOfTwo(t *testing.T) {
	seen := map[api.Run]int{}
	for op := api.OAdd; op <= api.OCx; op++ {
		for _, a := range some() {
			for _, b := range append(some(), val.Int(1)) {
				v, e := ops.Binary(op, a, b)
				seen[e]++
				expect(t, line(2, konst(0, a), konst(1, b), bin(op, 2, 0, 1)), 9, end(v, e))
				expect(t, line(1, konst(0, a), konst(1, b), bin(op, 1, 0, 1)), 9, end(v, e))
				expect(t, line(0, konst(0, a), konst(1, b), bin(op, 0, 0, 1)), 9, end(v, e))
				expect(t, line(4, konst(3, b), konst(5, a), bin(op, 4, 5, 3)), 9, end(v, e))
			}
			v, e := ops.Binary(op, a, a)
			expect(t, line(2, konst(1, a), bin(op, 2, 1, 1)), 9, end(v, e))
			expect(t, line(1, konst(1, a), bin(op, 1, 1, 1)), 9, end(v, e))
		}
	}
	if seen[api.ROK] < 100 || seen[api.RKind] < 100 || seen[api.RZero] == 0 || seen[api.RIndex] == 0 {
		t.Error(seen)
	}
}

func TestEachOpOfOne(t *testing.T) {
	for op := api.ONeg; op <= api.OConj; op++ {
		for _, a := range some() {
			v, e := ops.Unary(op, a)
			expect(t, line(2, konst(0, a), un(op, 2, 0)), 9, end(v, e))
			expect(t, line(3, konst(3, a), un(op, 3, 3)), 9, end(v, e))
		}
	}
}

func TestOut(t *testing.T) {
	for _, v := range some() {
		expect(t, line(0, konst(3, v), out(3)), 9, val.Show(v)+" = nil 0")
	}
	expect(t, line(1, out(0), number(0, 1), out(0), out(0), number(0, 2), out(0)), 9, "nil 1 1 2 = nil 0")
}

func TestTick(t *testing.T) {
	expect(t, line(0, tick(1), tick(4095), tick(2), number(0, 3), tick(2)), 9, "t1 t4095 t2 t2 = 3 0")
}

func TestList(t *testing.T) {
	three := code(number(0, 1), number(1, 2), konst(2, val.List(nil)))
	for want, i := range map[string]api.RIns{
		"[]": list(3), "[1]": list(3, 0), "[2, 1]": list(3, 1, 0), "[1, 1, [], 1]": list(3, 0, 0, 2, 0), "[nil]": list(3, 3), "[1, nil, 2]": list(3, 0, 3, 1),
	} {
		expect(t, line(3, append(three, i)...), 9, "= "+want+" 0")
	}
	expect(t, line(0, append(three, list(0, 0, 1, 0))...), 9, "= [1, 2, 1] 0")
	expect(t, line(5, append(three, list(4, 0), list(4, 4, 4), list(5, 4, 2), list(4))...), 9, "= [[[1], [1]], []] 0")
	for _, n := range []int{63, 64} {
		expect(t, line(1, number(0, 5), list(1, make([]int, n)...)), 9, "= "+val.Show(val.List(slices.Repeat(values(val.Int(5)), n)))+" 0")
	}
}

// The operands stand in the first registers, in their order; the caller's registers stay as they are, but for D.
func TestCall(t *testing.T) {
	back := fn(3, 4, block(ret(3), list(3, 0, 1, 2), number(0, 77), number(1, 78), number(2, 79)))
	ahead := code(number(0, 1), number(1, 2), number(2, 3), number(5, 6), tick(9))
	for want, i := range map[string]api.RIns{
		"[1, 2, 3, [1, 2, 3], nil, 6]":     call(1, 3, 0, 1, 2),
		"[1, 2, 3, [3, 2, 1], nil, 6]":     call(1, 3, 2, 1, 0),
		"[1, 2, 3, nil, [1, 1, nil], 6]":   call(1, 4, 0, 0, 4),
		"[[1, 2, 3], 2, 3, nil, nil, 6]":   call(1, 0, 0, 1, 2),
		"[1, 2, [3, 3, 6], nil, nil, 6]":   call(1, 2, 2, 2, 5),
		"[1, 2, 3, nil, nil, [nil, 2, 1]]": call(1, 5, 3, 1, 0),
	} {
		l := row(ahead, code(i, list(6, 0, 1, 2, 3, 4, 5)))
		expect(t, program(fn(0, 7, block(ret(6), l...)), back), 9, "t9 = "+want+" 0")
	}
	none := program(fn(0, 1, block(ret(0), tick(1), call(1, 0))), fn(0, 1, block(ret(0), number(0, 4))))
	expect(t, none, 9, "t1 = 4 0")
	none.Fns[0].Blocks[0].Ins[1].L = []int{}
	expect(t, none, 9, "t1 = 4 0")
	eight := program(fn(0, 8, block(ret(0), number(0, 1), number(7, 8), tick(1), call(1, 0, 7, 6, 5, 4, 3, 2, 1, 0))), fn(8, 8, block(ret(0), list(0, 0, 1, 2, 3, 4, 5, 6, 7))))
	expect(t, eight, 9, "t1 = [8, nil, nil, nil, nil, nil, nil, 1] 0")
}

// A call is gone on from behind its RCall, wherever in its block that stands.
func TestCallsInOneBlock(t *testing.T) {
	next := fn(1, 2, block(ret(0), number(1, 1), bin(api.OAdd, 0, 0, 1), out(0)))
	l := code(number(0, 1), tick(1), call(1, 1, 0), tick(2), call(1, 1, 1), out(1), tick(3), tick(4), call(1, 0, 1))
	expect(t, program(fn(0, 2, block(ret(0), l...)), next), 20, "t1 2 t2 3 3 t3 t4 4 = 4 0")
	expect(t, program(fn(0, 2, block(jump(1), l...), block(ret(0))), next), 20, "t1 2 t2 3 3 t3 t4 4 = 4 0")
}

func TestJump(t *testing.T) {
	// ahead, over what is not come to, and back
	expect(t, mainOf(block(jump(2), number(0, 1)), block(ret(0), number(0, 9)), block(ret(0), out(0))), 9, "1 = 1 0")
	expect(t, mainOf(block(jump(2), number(0, 1)), block(ret(0), out(0)), block(jump(1), number(0, 3))), 9, "3 = 3 0")
	expect(t, mainOf(block(jump(3)), block(jump(4), number(0, 2)), block(jump(1), number(0, 1)), block(jump(2), number(0, 0)), block(ret(0), out(0))), 9, "2 = 2 0")
	// to itself, and to the first block, where the registers stay as they are
	expect(t, mainOf(block(jump(0), tick(3))), 2, "t3 t3 = nil 6")
	expect(t, mainOf(block(br(0, 2, 1), tick(1)), block(jump(0), number(0, 8)), block(ret(0))), 9, "t1 t1 = 8 0")
}

func TestBranch(t *testing.T) {
	for _, v := range append(some(), val.Int(-1), val.List(values(val.Nil())), val.Text("0"), val.Cx(1i)) {
		want := "= 2 0"
		if val.Truth(v) {
			want = "= 1 0"
		}
		one, two := block(ret(1), number(1, 1)), block(ret(1), number(1, 2))
		expect(t, mainOf(block(br(3, 1, 2), konst(3, v)), one, two), 9, want)
		expect(t, mainOf(block(br(3, 2, 1), konst(3, v)), two, one), 9, want)
		// whose To and Else are one
		expect(t, mainOf(block(br(3, 1, 1), konst(3, v)), one, two), 9, "= 1 0")
	}
	expect(t, mainOf(block(br(5, 1, 2), number(0, 1)), block(ret(0)), block(ret(1))), 9, "= nil 0")
	// back and ahead: what is Truth goes round
	expect(t, mainOf(block(jump(1), number(0, 3), number(1, 1)), block(br(0, 1, 2), out(0), tick(1), bin(api.OSub, 0, 0, 1)), block(ret(0))), 9, "3 t1 2 t1 1 t1 = 0 0")
	expect(t, mainOf(block(jump(1), number(1, 1)), block(br(2, 2, 1), tick(1), bin(api.OEq, 2, 0, 1), mov(0, 1)), block(ret(2))), 9, "t1 t1 = 1 0")
}

func TestReturn(t *testing.T) {
	for a, want := range []string{"1", "2", "[]", "nil"} {
		expect(t, line(a, number(0, 1), number(1, 2), konst(2, val.List(nil))), 9, "= "+want+" 0")
	}
	// one of many
	p := program(fn(0, 3, block(ret(2), number(0, 1), tick(1), call(1, 1, 0), tick(2), call(1, 2, 2), list(2, 1, 2))),
		fn(1, 2, block(br(0, 2, 1)), block(ret(1), number(1, 10)), block(ret(1), number(1, 20))))
	expect(t, p, 9, "t1 t2 = [20, 10] 0")
}

// counts is a function that goes round as often as its operand says, and returns the sum of what it passed.
func counts() api.RFn {
	return fn(1, 4, block(jump(1), number(1, 0), number(2, 1)), block(br(0, 2, 3)), block(jump(1), bin(api.OAdd, 1, 1, 0), bin(api.OSub, 0, 0, 2), tick(5)), block(ret(1)))
}

func TestLoops(t *testing.T) {
	for n, sum := range []int{0, 1, 3, 6, 10, 15} {
		p := program(fn(0, 1, block(ret(0), number(0, int64(n)), tick(1), call(1, 0, 0))), counts())
		expect(t, p, 9, "t1 "+strings.Repeat("t5 ", n)+"= "+strconv.Itoa(sum)+" 0")
	}
	// a loop in a loop, with a call in it
	inner := program(fn(0, 4,
		block(jump(1), number(0, 2), number(1, 1)),
		block(br(0, 2, 5), mov(2, 0)),
		block(br(2, 3, 4), out(2)),
		block(jump(2), bin(api.OSub, 2, 2, 1), tick(1)),
		block(jump(1), bin(api.OSub, 0, 0, 1), tick(2), call(1, 3, 0), out(3)),
		block(ret(2))), counts())
	expect(t, inner, 30, "2 t1 1 t1 0 t2 t5 1 1 t1 0 t2 0 = 0 0")
}

// down is a function that calls itself until its operand is 0, and outputs on its way there and back.
func down(self int) api.RFn {
	return fn(1, 5, block(br(0, 1, 2), number(1, 1), out(0)), block(ret(3), mov(2, 0), bin(api.OSub, 0, 0, 1), tick(5), call(self, 3, 0), list(3, 2, 3), out(3)), block(ret(4)))
}

func TestFunctionsThatCallThemselves(t *testing.T) {
	p := program(fn(0, 1, block(ret(0), number(0, 2), tick(1), call(1, 0, 0))), down(1))
	expect(t, p, 20, "t1 2 t5 1 t5 0 [1, nil] [2, [1, nil]] = [2, [1, nil]] 0")
	// two that call each other, and main
	even := fn(1, 3, block(br(0, 1, 2), number(1, 1), bin(api.OSub, 2, 0, 1)), block(ret(0), tick(1), call(2, 0, 2)), block(ret(1)))
	odd := fn(1, 3, block(br(0, 1, 2), number(1, 1), bin(api.OSub, 2, 0, 1), number(1, 0)), block(ret(0), tick(2), call(1, 0, 2)), block(ret(1)))
	for n, want := range []string{"t9 = 1 0", "t9 t1 = 0 0", "t9 t1 t2 = 1 0", "t9 t1 t2 t1 = 0 0"} {
		p = program(fn(0, 1, block(ret(0), number(0, int64(n)), tick(9), call(1, 0, 0))), even, odd)
		expect(t, p, 9, want)
	}
	expect(t, program(fn(0, 1, block(ret(0), tick(1), call(0, 0)))), 4, "t1 t1 t1 t1 = nil 6")
}

// Main may be any of the functions.
func TestMainInAnyPlace(t *testing.T) {
	p := program(fn(2, 2, block(ret(0))), fn(0, 1, block(ret(0), number(0, 1))), fn(0, 2, block(ret(0), number(1, 2), tick(1), call(0, 0, 1, 0))))
	for at, want := range map[int]string{1: "= 1 0", 2: "t1 = 2 0"} {
		p.Main = at
		expect(t, p, 9, want)
	}
}

// A value is never changed: lists that are made longer are others, whoever holds the first one.
func TestValuesAreNotChanged(t *testing.T) {
	l := konst(0, val.List(values(val.Int(1), val.List(nil))))
	push := fn(2, 2, block(ret(0), bin(api.OPush, 0, 0, 1)))
	p := program(fn(0, 6, block(ret(5), l, mov(1, 0), number(2, 2), bin(api.OPush, 0, 0, 2), bin(api.OAdd, 3, 1, 1), tick(1), call(1, 4, 1, 1), list(5, 0, 1, 3, 4))), push)
	expect(t, p, 9, "t1 = [[1, [], 2], [1, []], [1, [], 1, []], [1, [], [1, []]]] 0")
	// a constant that is taken again is what it was
	p = mainOf(block(br(1, 0, 1), l, bin(api.OPush, 0, 0, 1), out(0), tick(1), bin(api.OEq, 1, 1, 3)), block(ret(0)))
	expect(t, p, 9, "[1, [], nil] t1 [1, [], 1] t1 = [1, [], 1] 0")
}

// Deep means nothing to a run.
func TestDeepMeansNothing(t *testing.T) {
	p := program(fn(0, 3, block(ret(0), number(0, 2), tick(1), call(1, 0, 0), out(0), un(api.ONeg, 0, 0), list(1, 0, 0), bin(api.OPush, 1, 1, 2), mov(0, 1))), counts())
	want := "t1 t5 t5 3 = [-3, -3, nil] 0"
	expect(t, p, 9, want)
	for n := range p.Fns[0].Blocks[0].Ins {
		p.Fns[0].Blocks[0].Ins[n].Deep = 1 + n
	}
	expect(t, p, 9, want)
}
