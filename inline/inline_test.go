package inline_test

import (
	"fmt"
	"math"
	"reflect"
	"slices"
	"testing"

	"ratline/api"
	"ratline/hand"
	"ratline/inline"
	"ratline/sim"
	"ratline/val"
)

var (
	number              = func(d int, n int64) api.RIns { return hand.Const(d, val.Int(n)) }
	null                = func(d int) api.RIns { return hand.Const(d, val.Nil()) }
	mov, bin, un, call  = hand.Mov, hand.Bin, hand.Un, hand.Call
	out, tick, list     = hand.Out, hand.Tick, hand.List
	jump, br, ret, deep = hand.Jump, hand.Br, hand.Ret, hand.Deep
	block, fn           = hand.Block, hand.Fn
)

// prog is a program, the first function of which is main.
func prog(l ...api.RFn) api.RProg { return api.RProg{Fns: l} }

// short is the beginning of what p's functions are.
func short(p api.RProg) string {
	s := fmt.Sprintln("main", p.Main)
	for n, f := range p.Fns {
		s += fmt.Sprintf("fn %d: %q %d %d\n", n, f.Name, f.Params, f.Regs) + sim.Text(f)
	}
	if len(s) > 1500 {
		s = s[:1500] + " .."
	}
	return s
}

func plain(p api.RProg) api.RProg { return hand.Mapped(p, hand.Plain) }

func expectMade(t *testing.T, p, got, want api.RProg) {
	t.Helper()
	if got.Main != want.Main || !reflect.DeepEqual(plain(got).Fns, plain(want).Fns) {
		t.Fatalf("Run of\n%sis\n%swant\n%s", short(p), short(got), short(want))
	}
}

// sound asks that Check takes p.
func sound(t *testing.T, p api.RProg) {
	t.Helper()
	if e := sim.Check(p); e != api.OK {
		t.Fatal(e, short(p))
	}
}

// deeply is code with another Deep.
func deeply(n int, l ...api.RIns) []api.RIns {
	for k := range l {
		l[k].Deep = n
	}
	return l
}

// row is code of several parts.
func row(l ...[]api.RIns) []api.RIns { return slices.Concat(l...) }

// Promise 17.1: Calls and Cyclic.

// calling is a program of functions that call others, in that order.
func calling(l ...[]int) api.RProg {
	p := api.RProg{Fns: make([]api.RFn, len(l))}
	for n, to := range l {
		b := block(ret(0))
		for _, k := range to {
			b.Ins = append(b.Ins, tick(1), call(k, 0))
		}
		p.Fns[n] = fn(0, 1, b)
	}
	return p
}

func TestCallsAndCyclic(t *testing.T) {
	for _, x := range []struct {
		calls  [][]int
		want   string
		cyclic string
	}{
		{nil, "[]", "[]"},
		{[][]int{nil}, "[[]]", "[false]"},
		{[][]int{{0}}, "[[0]]", "[true]"},
		{[][]int{{0, 0}}, "[[0]]", "[true]"},
		// rising, each once
		{[][]int{{2, 1, 2, 1, 2}, nil, {1}}, "[[1 2] [] [1]]", "[false false false]"},
		{[][]int{nil, {0, 2, 0}, {0}}, "[[] [0 2] [0]]", "[false false false]"},
		// by another one, by two others; one that only leads to such, one to which such lead
		{[][]int{{1}, {0}}, "[[1] [0]]", "[true true]"},
		{[][]int{{1}, {2}, {0}}, "[[1] [2] [0]]", "[true true true]"},
		{[][]int{{1}, {1, 2}, nil}, "[[1] [1 2] []]", "[false true false]"},
		{[][]int{{1}, {2}, {3}, {1}}, "[[1] [2] [3] [1]]", "[false true true true]"},
		// two circles, one of which leads to the other, and one between them that is in none
		{[][]int{{1}, {0, 2}, {3}, {4}, {3}}, "[[1] [0 2] [3] [4] [3]]", "[true true false true true]"},
		// many ways and none back
		{[][]int{{1, 2, 3}, {2, 3}, {3}, nil}, "[[1 2 3] [2 3] [3] []]", "[false false false false]"},
		{[][]int{{1, 2}, {3}, {3}, {4}, {1}}, "[[1 2] [3] [3] [4] [1]]", "[false true false true true]"},
		// functions that are none are not called
		{[][]int{{1, -1, 9, math.MaxInt, math.MinInt, 2}, {2}}, "[[1] []]", "[false false]"},
		{[][]int{{-1, 1, 0}}, "[[0]]", "[true]"},
	} {
		p := calling(x.calls...)
		if s := fmt.Sprint(inline.Calls(p)); s != x.want {
			t.Errorf("%v: %s, want %s", x.calls, s, x.want)
		}
		if s := fmt.Sprint(inline.Cyclic(p)); s != x.cyclic {
			t.Errorf("%v: %s, want %s", x.calls, s, x.cyclic)
		}
	}
}

// A call counts in whatever block it stands, come to or not; what is no RCall does not, whatever its N is.
func TestCallsInAllBlocks(t *testing.T) {
	f := fn(0, 1, block(ret(0), tick(1), call(3, 0)), block(jump(1), api.RIns{Op: 9, N: 1}, bin(2, 0, 0, 0)), block(api.RTerm{}, api.RIns{Op: api.ROut, N: 1}, call(2, 0), call(0, 0)), block(ret(0), call(2, 0)))
	p := prog(f, fn(0, 1), fn(0, 1, block(ret(0), un(1, 0, 0))), fn(0, 1))
	if s := fmt.Sprint(inline.Calls(p), inline.Cyclic(p)); s != "[[0 2 3] [] [] []] [true false false false]" {
		t.Error(s)
	}
	p.Main = 77
	if s := fmt.Sprint(inline.Calls(p), inline.Cyclic(p)); s != "[[0 2 3] [] [] []] [true false false false]" {
		t.Error(s)
	}
}

// A circle of all functions, and the same with one call less.
func TestCircles(t *testing.T) {
	for _, most := range []int{api.MaxFns, 400} {
		var l [][]int
		for n := range most {
			l = append(l, []int{(n + 1) % most})
		}
		if slices.Contains(inline.Cyclic(calling(l...)), false) {
			t.Error(most)
		}
		l[most/2] = nil
		if slices.Contains(inline.Cyclic(calling(l...)), true) {
			t.Error(most)
		}
	}
}

// Promise 17.1: Run, written out.

// same returns its parameter.
func same() api.RFn { return fn(1, 2, block(ret(1), mov(1, 0))) }

// The example of the chapter.
func TestExample(t *testing.T) {
	p, e := hand.Lifted("fn f(a) { return a; } fn main() { print f(7); }")
	if e != api.OK {
		t.Fatal(e)
	}
	q := inline.Run(p, 12, 3)
	want := "block 0\n1 0 0 0 0 7\n7 0 0 0 1\n2 1 0 0 0\n1 2 0 0 0 nil\n1 0 1 0\nblock 1\n2 2 1 0 0\n2 0 2 0 0\n1 0 2 0\nblock 2\n6 0 0 0 0\n1 0 0 0 0 nil\n3 0 0 0\n"
	if s := sim.Text(q.Fns[1]); s != want || q.Fns[1].Regs != 3 {
		t.Errorf("%q", s)
	}
	expectMade(t, p, prog(q.Fns[0]), prog(p.Fns[0]))
}

func TestRun(t *testing.T) {
	// registers 3 and 4 are the body's: its parameter, and one that is nil at first
	main := fn(0, 3, block(ret(2), number(1, 7), tick(9), call(1, 2, 1), out(2)))
	expectMade(t, prog(main, same()), inline.Run(prog(main, same()), 9, 1), prog(fn(0, 5,
		block(jump(1), row(hand.Code(number(1, 7), tick(9)), deeply(1, mov(3, 1), null(4)))...),
		block(jump(2), deeply(1, mov(4, 3), mov(2, 4))...),
		block(ret(2), out(2)),
	), same()))
	// a call as the first one of its block and as the last one, with nothing but it
	main = fn(1, 1, block(br(0, 1, 0), call(1, 0, 0)), block(ret(0), out(0)))
	expectMade(t, prog(main, same()), inline.Run(prog(main, same()), 9, 1), prog(fn(1, 3,
		block(jump(1), deeply(1, mov(1, 0), null(2))...),
		block(jump(2), deeply(1, mov(2, 1), mov(0, 2))...),
		block(br(0, 3, 0)),
		block(ret(0), out(0)),
	), same()))
}

// Several blocks and several returns; a parameter that the body writes is no register of the caller; ends of the caller that lead behind the call lead where blocks stand now.
func TestRunOfManyBlocks(t *testing.T) {
	count := fn(2, 4,
		block(br(0, 1, 2), bin(api.OLt, 2, 0, 1)),
		block(jump(0), tick(3), number(3, 1), bin(api.OAdd, 0, 0, 3)),
		block(br(2, 3, 4), out(0)),
		block(ret(1), list(2, 0, 1, 3)),
		block(ret(0)),
	)
	main := fn(0, 2,
		block(br(0, 2, 1), number(0, 0), number(1, 2)),
		block(br(1, 2, 0), tick(5), call(1, 1, 0, 1), out(1)),
		block(br(0, 1, 3), tick(6)),
		block(ret(1)),
	)
	p := prog(main, count)
	sound(t, p)
	expectMade(t, p, inline.Run(p, 99, 9), prog(fn(0, 6,
		block(br(0, 8, 1), number(0, 0), number(1, 2)),
		block(jump(2), row(hand.Code(tick(5)), deeply(1, mov(2, 0), mov(3, 1), null(4), null(5)))...),
		block(br(2, 3, 4), deeply(1, bin(api.OLt, 4, 2, 3))...),
		block(jump(2), deeply(1, tick(3), number(5, 1), bin(api.OAdd, 2, 2, 5))...),
		block(br(4, 5, 6), deeply(1, out(2))...),
		block(jump(7), deeply(1, list(4, 2, 3, 5), mov(1, 3))...),
		block(jump(7), deeply(1, mov(1, 2))...),
		block(br(1, 8, 0), out(1)),
		block(br(0, 1, 9), tick(6)),
		block(ret(1)),
	), count))
}

// All Ops stand in a body with the fields that they have.
func TestRunOfAllOps(t *testing.T) {
	k := val.List([]api.Value{val.Text("a"), val.Int(0)})
	ops := hand.Code(hand.Const(1, k), mov(2, 0), bin(api.OGet, 0, 1, 2), un(api.ONot, 2, 1), out(2), tick(4095), list(1), list(0, 2, 0, 2), tick(1), call(0, 2), tick(2), call(2, 1, 2, 0))
	f := fn(1, 3, block(ret(0), ops...))
	main := fn(0, 7, block(ret(6), tick(1), call(1, 6, 5), tick(2), call(0, 0)))
	p := prog(main, f, fn(2, 2, block(ret(1), tick(7), call(2, 0, 1, 1))))
	sound(t, p)
	q := inline.Run(prog(fn(0, 7, block(ret(6), tick(1), call(1, 6, 5))), fn(1, 3, block(ret(0), ops[:8]...))), 99, 9)
	want := deeply(1, hand.Const(8, k), mov(9, 7), bin(api.OGet, 7, 8, 9), un(api.ONot, 9, 8), out(9), tick(4095), list(8), list(7, 9, 7, 9), mov(6, 7))
	expectMade(t, p, prog(q.Fns[0]), prog(fn(0, 10, block(jump(1), row(hand.Code(tick(1)), deeply(1, mov(7, 5), null(8), null(9)))...), block(jump(2), want...), block(ret(6)))))
	// main and f come to themselves by each other: all calls stay
	expectMade(t, p, inline.Run(p, 99, 9), p)
	// f comes to itself no more, and its calls of one that does stand in its body
	p.Fns[1].Blocks[0].Ins[9].N, p.Fns[1].Blocks[0].Ins[9].L = 2, []int{0, 2}
	p.Fns[0].Blocks[0].Ins[3] = number(0, 3)
	sound(t, p)
	want = append(want[:8:8], deeply(1, tick(1), call(2, 9, 7, 9), tick(2), call(2, 8, 9, 7), mov(6, 7))...)
	q = inline.Run(p, 99, 9)
	expectMade(t, p, prog(q.Fns[0]), prog(fn(0, 10, block(jump(1), row(hand.Code(tick(1)), deeply(1, mov(7, 5), null(8), null(9)))...), block(jump(2), want...), block(ret(6), tick(2), number(0, 3)))))
}

// Two calls in one block, each with registers of its own, the first one's ahead; a call in a body is looked at ahead of one behind the body.
func TestRunOfManyCalls(t *testing.T) {
	leaf := fn(0, 1, block(ret(0), number(0, 5)))
	mid := fn(1, 1, block(ret(0), tick(2), call(2, 0), out(0)))
	main := fn(0, 1, block(ret(0), tick(1), call(1, 0, 0), tick(3), call(2, 0), tick(4)))
	p := prog(main, mid, leaf)
	sound(t, p)
	expectMade(t, p, inline.Run(p, 99, 2), prog(
		fn(0, 4,
			block(jump(1), row(hand.Code(tick(1)), deeply(1, mov(1, 0)))...),
			block(jump(2), row(deeply(1, tick(2)), deeply(2, null(2)))...),
			block(jump(3), deeply(2, number(2, 5), mov(1, 2))...),
			block(jump(4), deeply(1, out(1), mov(0, 1))...),
			block(jump(5), row(hand.Code(tick(3)), deeply(1, null(3)))...),
			block(jump(6), deeply(1, number(3, 5), mov(0, 3))...),
			block(ret(0), tick(4)),
		),
		fn(1, 2, block(jump(1), row(hand.Code(tick(2)), deeply(1, null(1)))...), block(jump(2), deeply(1, number(1, 5), mov(0, 1))...), block(ret(0), out(0))),
		leaf))
	// where the one in the body stays, it has one Deep more too
	expectMade(t, p, inline.Run(p, 99, 1), prog(
		fn(0, 3,
			block(jump(1), row(hand.Code(tick(1)), deeply(1, mov(1, 0)))...),
			block(jump(2), deeply(1, tick(2), call(2, 1), out(1), mov(0, 1))...),
			block(jump(3), row(hand.Code(tick(3)), deeply(1, null(2)))...),
			block(jump(4), deeply(1, number(2, 5), mov(0, 2))...),
			block(ret(0), tick(4)),
		),
		fn(1, 2, block(jump(1), row(hand.Code(tick(2)), deeply(1, null(1)))...), block(jump(2), deeply(1, number(1, 5), mov(0, 1))...), block(ret(0), out(0))),
		leaf))
}

// What is laid open is the body as it was ahead of the pass, and by its Size then: mid is too great by what is laid open in it, and is taken as it was.
func TestRunTakesWhatWas(t *testing.T) {
	leaf := fn(0, 1, block(ret(0), number(0, 5), out(0), out(0)))
	mid := fn(1, 1, block(ret(0), tick(2), call(0, 0), out(0)))
	main := fn(0, 1, block(ret(0), tick(1), call(1, 0, 0)))
	p := api.RProg{Fns: []api.RFn{leaf, mid, main}, Main: 2}
	sound(t, p)
	q := inline.Run(p, 4, 1)
	if n := sim.Size(q.Fns[1]); n <= 4 || sim.Size(mid) != 4 || sim.Size(leaf) != 4 {
		t.Fatal(n)
	}
	expectMade(t, p, prog(q.Fns[2]), prog(fn(0, 2,
		block(jump(1), row(hand.Code(tick(1)), deeply(1, mov(1, 0)))...),
		block(jump(2), deeply(1, tick(2), call(0, 1), out(1), mov(0, 1))...),
		block(ret(0)))))
	if q.Main != 2 {
		t.Error(q.Main)
	}
}

// A name, Params and what no call stands in stay as they are.
func TestRunLeavesTheRest(t *testing.T) {
	f := api.RFn{Name: "other", Params: 3, Regs: 9, Blocks: []api.RBlock{block(br(8, 0, 0), deep(5, mov(1, 2)), tick(3)), block(ret(2))}}
	p := api.RProg{Fns: []api.RFn{f, {Name: "name", Params: 0, Regs: 4, Blocks: []api.RBlock{block(ret(0), deep(4, out(1)), tick(1), call(2, 0))}}, fn(0, 1, block(ret(0)))}, Main: 1}
	sound(t, p)
	q := inline.Run(p, 9, 9)
	want := api.RFn{Name: "name", Regs: 5, Blocks: []api.RBlock{block(jump(1), deep(4, out(1)), tick(1), deep(1, null(4))), block(jump(2), deep(1, mov(0, 4))), block(ret(0))}}
	expectMade(t, p, q, api.RProg{Fns: []api.RFn{f, want, p.Fns[2]}, Main: 1})
}
