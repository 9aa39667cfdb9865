package thread_test

import (
	"math"
	"reflect"
	"testing"

	"ratline/api"
	"ratline/hand"
	"ratline/sim"
	"ratline/thread"
	"ratline/val"
)

var (
	mov, un, call, list, out, tick = hand.Mov, hand.Un, hand.Call, hand.List, hand.Out, hand.Tick
	jump, br, ret, code, block, fn = hand.Jump, hand.Br, hand.Ret, hand.Code, hand.Block, hand.Fn
	plain, copied                  = hand.Plain, hand.Copied
)

type pass = hand.Pass

var passes = []pass{thread.Ends, thread.Merge, thread.Run}

// short is the beginning of f's text.
func short(f api.RFn) string {
	s := sim.Text(f)
	if len(s) > 900 {
		s = s[:900] + " .."
	}
	return s
}

func expectMade(t *testing.T, name string, f, got, want api.RFn) {
	t.Helper()
	if !reflect.DeepEqual(plain(got), plain(want)) {
		t.Fatalf("%s of\n%sis\n%swant\n%s", name, short(f), short(got), short(want))
	}
}

// ends are blocks that have ends alone.
func ends(l ...api.RTerm) []api.RBlock {
	var all []api.RBlock
	for _, t := range l {
		all = append(all, block(t))
	}
	return all
}

// marked is a block that is told apart by what it puts out.
func marked(n int, t api.RTerm) api.RBlock { return block(t, out(n)) }

// row is a block that puts out several.
func row(t api.RTerm, l ...int) api.RBlock {
	b := block(t)
	for _, n := range l {
		b.Ins = append(b.Ins, out(n))
	}
	return b
}

// made is what a pass makes of blocks.
type made struct{ l, want []api.RBlock }

func expectAll(t *testing.T, name string, p pass, l []made) {
	t.Helper()
	for _, x := range l {
		expectMade(t, name, fn(1, 200, x.l...), p(fn(1, 200, x.l...)), fn(1, 200, x.want...))
	}
}

// expectSame asks that a pass leaves blocks as they are.
func expectSame(t *testing.T, name string, p pass, l ...[]api.RBlock) {
	t.Helper()
	for _, b := range l {
		expectAll(t, name, p, []made{{b, b}})
	}
}

// The example of the chapter.
func TestExample(t *testing.T) {
	expectAll(t, "Run", thread.Run, []made{{ends(jump(1), jump(2), ret(0)), ends(ret(0))}})
}

// Promise 16.1: Final.

// expectFinals asks for the Final of each block.
func expectFinals(t *testing.T, l []api.RBlock, want ...int) {
	t.Helper()
	f := fn(1, 9, l...)
	for n := range l {
		if got := thread.Final(f, n); got != want[n] {
			t.Errorf("Final of %d: %d, want %d\n%s", n, got, want[n], short(f))
		}
	}
}

func TestFinal(t *testing.T) {
	// what does more than to lead on is its own: by its end, or by an Ins of whatever Op
	expectFinals(t, ends(ret(0), br(0, 0, 2), br(0, 0, 0)), 0, 1, 2)
	for _, i := range code(hand.Const(0, val.Nil()), mov(0, 0), hand.Bin(api.OAdd, 0, 0, 0), un(api.ONot, 0, 0), call(0, 0), out(0), tick(1), list(0), api.RIns{}) {
		expectFinals(t, []api.RBlock{block(jump(1)), block(jump(2), i), block(ret(0))}, 1, 1, 2)
	}
	// chains: ahead, back, across, to each of them
	expectFinals(t, ends(jump(1), jump(2), jump(3), ret(0)), 3, 3, 3, 3)
	expectFinals(t, ends(ret(0), jump(0), jump(1), jump(2)), 0, 0, 0, 0)
	expectFinals(t, ends(jump(4), jump(3), ret(1), jump(2), jump(1)), 2, 2, 2, 2, 2)
	expectFinals(t, ends(jump(2), jump(2), br(0, 0, 1), jump(1)), 2, 2, 2, 2)
	expectFinals(t, append(ends(jump(3), jump(0), jump(3)), marked(1, jump(1))), 3, 3, 3, 3)
}

// One that goes round has the least block of the circle, also where it comes in elsewhere; what only leads in does not count.
func TestFinalOfCircles(t *testing.T) {
	expectFinals(t, ends(jump(0)), 0)
	expectFinals(t, ends(ret(0), jump(1)), 0, 1)
	expectFinals(t, ends(jump(1), jump(0)), 0, 0)
	expectFinals(t, ends(jump(1), jump(2), jump(0)), 0, 0, 0)
	expectFinals(t, ends(ret(0), jump(3), jump(1), jump(2)), 0, 1, 1, 1)
	expectFinals(t, ends(ret(0), jump(2), jump(3), jump(1)), 0, 1, 1, 1)
	// ways in, from a lesser block and from a greater one, short and long
	expectFinals(t, ends(jump(1), jump(1)), 1, 1)
	expectFinals(t, ends(jump(2), jump(2), jump(3), jump(2)), 2, 2, 2, 2)
	expectFinals(t, ends(jump(3), jump(0), jump(4), jump(2), jump(3), jump(1)), 3-1, 2, 2, 2, 2, 2)
	expectFinals(t, ends(jump(1), jump(5), jump(4), jump(2), jump(3), jump(3)), 2, 2, 2, 2, 2, 2)
	// two circles, and what leads into each
	expectFinals(t, ends(jump(5), jump(4), jump(0), jump(2), jump(1), jump(3), jump(1), jump(5)), 0, 1, 0, 0, 1, 0, 1, 0)
	// a circle that has more in it than jumps is none
	expectFinals(t, ends(jump(1), jump(2), br(0, 0, 1)), 2, 2, 2)
	expectFinals(t, append(ends(jump(1), jump(2)), marked(0, jump(0))), 2, 2, 2)
}

// A block that is none, and a way that leads to none.
func TestFinalOfNone(t *testing.T) {
	f := fn(1, 9, ends(jump(1), ret(0))...)
	for _, n := range []int{math.MinInt, math.MinInt + 1, -1 << 40, -3, -2, -1, 2, 3, 2000, 1 << 32, math.MaxInt} {
		for _, g := range []api.RFn{f, {}, fn(0, 1)} {
			if got := thread.Final(g, n); got != -1 {
				t.Error(n, got)
			}
		}
		expectFinals(t, ends(jump(n)), -1)
		expectFinals(t, ends(jump(1), jump(n)), -1, -1)
		if n < 2 || n > 4 {
			expectFinals(t, append(ends(br(0, n, n), jump(3), jump(1), jump(n)), marked(0, jump(n))), 0, -1, -1, -1, 4)
		}
	}
	if got := thread.Final(api.RFn{}, 0); got != -1 {
		t.Error(got)
	}
}

// What a TJump has besides To, and ends that are none, lead nowhere.
func TestFinalOfOddEnds(t *testing.T) {
	expectFinals(t, ends(api.RTerm{Kind: api.TJump, A: 2, To: 1, Else: 2}, ret(0), ret(0)), 1, 1, 2)
	for _, kind := range []int{math.MinInt, -1, 0, api.TBr, api.TRet, 4, 1<<32 + api.TJump, math.MaxInt} {
		expectFinals(t, ends(api.RTerm{Kind: kind, To: 1, Else: 1}, ret(0), jump(0)), 0, 1, 0)
	}
}

// Promise 16.1: Ends.

func TestEnds(t *testing.T) {
	expectAll(t, "Ends", thread.Ends, []made{
		// jumps past one block, past several, in any order; what leads on itself is turned too, and nothing is left out
		{ends(jump(1), jump(2), ret(0)), ends(jump(2), jump(2), ret(0))},
		{ends(jump(3), ret(0), jump(1), jump(2)), ends(jump(1), ret(0), jump(1), jump(1))},
		{[]api.RBlock{marked(0, jump(1)), block(jump(2)), marked(2, jump(3)), block(jump(4)), block(jump(5)), marked(5, ret(0))}, []api.RBlock{marked(0, jump(2)), block(jump(2)), marked(2, jump(5)), block(jump(5)), block(jump(5)), marked(5, ret(0))}},
		// branches: To, Else, both
		{ends(br(7, 1, 2), jump(3), ret(0), ret(1)), ends(br(7, 3, 2), jump(3), ret(0), ret(1))},
		{ends(br(7, 2, 1), jump(3), ret(0), ret(1)), ends(br(7, 2, 3), jump(3), ret(0), ret(1))},
		{ends(br(7, 4, 1), jump(3), ret(0), ret(1), jump(2)), ends(br(7, 2, 3), jump(3), ret(0), ret(1), jump(2))},
		// one to one place: by itself, behind one block, behind two, behind chains
		{ends(br(7, 1, 1), ret(0)), ends(jump(1), ret(0))},
		{ends(br(7, 0, 0)), ends(jump(0))},
		{ends(br(7, 1, 2), ret(0), jump(1)), ends(jump(1), ret(0), jump(1))},
		{ends(br(7, 2, 1), ret(0), jump(1)), ends(jump(1), ret(0), jump(1))},
		{ends(br(7, 1, 2), jump(3), jump(3), ret(0)), ends(jump(3), jump(3), jump(3), ret(0))},
		{ends(br(7, 1, 2), jump(5), jump(4), ret(0), jump(1), jump(3)), ends(jump(3), jump(3), jump(3), ret(0), jump(3), jump(3))},
		{[]api.RBlock{marked(3, br(7, 1, 2)), block(jump(2)), marked(2, br(0, 0, 1))}, []api.RBlock{marked(3, jump(2)), block(jump(2)), marked(2, br(0, 0, 2))}},
		// back to the first, and to itself
		{[]api.RBlock{marked(0, jump(1)), block(jump(0))}, []api.RBlock{marked(0, jump(0)), block(jump(0))}},
		{[]api.RBlock{block(jump(1)), marked(1, br(2, 0, 2)), block(ret(3))}, []api.RBlock{block(jump(1)), marked(1, br(2, 1, 2)), block(ret(3))}},
		// circles
		{ends(jump(1), jump(0)), ends(jump(0), jump(0))},
		{ends(br(0, 2, 4), ret(0), jump(3), jump(4), jump(2)), ends(jump(2), ret(0), jump(2), jump(2), jump(2))},
		{ends(br(0, 2, 5), jump(5), jump(3), jump(4), jump(3), jump(1)), ends(br(0, 3, 1), jump(1), jump(3), jump(3), jump(3), jump(1))},
		// blocks that are not come to are turned too
		{ends(ret(0), br(1, 2, 2), jump(3), jump(0)), ends(ret(0), jump(0), jump(0), jump(0))},
	})
	expectSame(t, "Ends", thread.Ends, nil, ends(ret(5)), ends(jump(0)), ends(jump(1), ret(0)), ends(br(1, 0, 1), ret(0)),
		[]api.RBlock{marked(0, jump(1)), marked(1, jump(2)), marked(2, br(1, 0, 1))})
}

// It is done once: an end that becomes a jump only by that leads on only the next time.
func TestEndsOnce(t *testing.T) {
	first := ends(jump(1), br(3, 2, 2), br(3, 3, 4), ret(0), jump(3))
	second := ends(jump(1), jump(2), jump(3), ret(0), jump(3))
	third := ends(jump(3), jump(3), jump(3), ret(0), jump(3))
	expectAll(t, "Ends", thread.Ends, []made{{first, second}, {second, third}, {third, third}})
	// a circle that closes only by that
	first = ends(jump(2), br(3, 2, 2), br(3, 1, 1))
	second = ends(jump(2), jump(2), jump(1))
	third = ends(jump(1), jump(1), jump(1))
	expectAll(t, "Ends", thread.Ends, []made{{first, second}, {second, third}, {third, third}})
	// the circle had another least block ahead of it
	expectAll(t, "Ends", thread.Ends, []made{{ends(ret(0), jump(3), jump(1), br(0, 2, 2)), ends(ret(0), jump(3), jump(3), jump(3))}})
}

// What leads to no block leads to -1; two ways there are one. Of what an end is that is none, and of what an end does not have, nothing is turned.
func TestEndsOfNone(t *testing.T) {
	for _, n := range []int{math.MinInt, -3, -1, 3, 77, 2000, 1 << 32, math.MaxInt} {
		expectAll(t, "Ends", thread.Ends, []made{
			{ends(jump(n), ret(0), ret(0)), ends(jump(-1), ret(0), ret(0))},
			{ends(jump(1), jump(2), jump(n)), ends(jump(-1), jump(-1), jump(-1))},
			{ends(br(0, n, 1), ret(0), ret(0)), ends(br(0, -1, 1), ret(0), ret(0))},
			{ends(br(0, 1, n), ret(0), ret(0)), ends(br(0, 1, -1), ret(0), ret(0))},
			{ends(br(0, n, -9), ret(0), ret(0)), ends(jump(-1), ret(0), ret(0))},
			{ends(br(0, 1, n), jump(n), ret(0)), ends(jump(-1), jump(-1), ret(0))},
		})
		odd := api.RTerm{Kind: api.TJump, A: n, To: 1, Else: n}
		turned := api.RTerm{Kind: api.TJump, A: n, To: 2, Else: n}
		expectAll(t, "Ends", thread.Ends, []made{{ends(odd, jump(2), ret(0)), ends(turned, jump(2), ret(0))}})
	}
	for _, kind := range []int{math.MinInt, -1, 0, api.TRet, 4, 99, 1<<32 + api.TBr, math.MaxInt} {
		odd := api.RTerm{Kind: kind, A: 1, To: 1, Else: 1}
		expectSame(t, "Ends", thread.Ends, ends(odd, jump(2), ret(0)))
	}
}

// Nothing else of a function is changed.
func TestAllElseStays(t *testing.T) {
	v, _ := val.Read(`[1, "a"]`)
	l := code(hand.Deep(3, hand.Const(1, v)), hand.Deep(1, mov(1, 1)), tick(5), hand.Deep(2, call(0, 4, 2, 2)), list(0, 4, 4), hand.Bin(api.OAdd, 3, 1, 2), un(api.ONot, 3, 1), out(2))
	f := api.RFn{Name: "name", Params: 3, Regs: 9, Blocks: []api.RBlock{block(br(8, 1, 2), l...), block(jump(2)), block(jump(3), l...), block(br(8, 0, 4), l[:2]...), block(ret(7), l...)}}
	g := plain(f)
	g.Blocks[0].Term = jump(2)
	expectMade(t, "Ends", f, thread.Ends(f), g)
	f.Blocks[0].Term = br(8, 1, 4)
	h := f
	h.Blocks = []api.RBlock{block(br(8, 1, 2), l...), block(br(8, 0, 2), append(l[:len(l):len(l)], l[:2]...)...), block(ret(7), l...)}
	expectMade(t, "Merge", f, thread.Merge(f), h)
	expectMade(t, "Run", f, thread.Run(f), h)
	for _, p := range passes {
		if g := p(api.RFn{Name: "none", Params: -5, Regs: 1 << 40}); g.Name != "none" || g.Params != -5 || g.Regs != 1<<40 || len(g.Blocks) != 0 {
			t.Error(g)
		}
	}
}
