package dead_test

import (
	"math"
	"testing"

	"ratline/api"
	"ratline/dead"
	"ratline/val"
)

// Promise 15.1: Unreach.

// Blocks are told apart by what they put out.
func marked(n int, t api.RTerm) api.RBlock { return block(t, out(n)) }

func TestUnreach(t *testing.T) {
	for _, x := range []struct{ l, want []api.RBlock }{
		// none is left out
		{[]api.RBlock{marked(0, ret(0))}, []api.RBlock{marked(0, ret(0))}},
		{[]api.RBlock{marked(0, jump(1)), marked(1, ret(0))}, []api.RBlock{marked(0, jump(1)), marked(1, ret(0))}},
		{[]api.RBlock{marked(0, jump(2)), marked(1, ret(0)), marked(2, br(3, 1, 0))}, []api.RBlock{marked(0, jump(2)), marked(1, ret(0)), marked(2, br(3, 1, 0))}},
		// the last, the second, one between others, several
		{[]api.RBlock{marked(0, ret(0)), marked(1, ret(1))}, []api.RBlock{marked(0, ret(0))}},
		{[]api.RBlock{marked(0, jump(2)), marked(1, ret(1)), marked(2, ret(2))}, []api.RBlock{marked(0, jump(1)), marked(2, ret(2))}},
		{[]api.RBlock{marked(0, jump(1)), marked(1, jump(3)), marked(2, jump(3)), marked(3, ret(0))}, []api.RBlock{marked(0, jump(1)), marked(1, jump(2)), marked(3, ret(0))}},
		{[]api.RBlock{marked(0, br(1, 2, 4)), marked(1, ret(1)), marked(2, br(1, 0, 4)), marked(3, ret(1)), marked(4, jump(2)), marked(5, ret(1))}, []api.RBlock{marked(0, br(1, 1, 2)), marked(2, br(1, 0, 2)), marked(4, jump(1))}},
		// by Else alone, by To alone, to one place
		{[]api.RBlock{marked(0, br(1, 0, 2)), marked(1, ret(1)), marked(2, ret(2))}, []api.RBlock{marked(0, br(1, 0, 1)), marked(2, ret(2))}},
		{[]api.RBlock{marked(0, br(1, 2, 0)), marked(1, ret(1)), marked(2, ret(2))}, []api.RBlock{marked(0, br(1, 1, 0)), marked(2, ret(2))}},
		{[]api.RBlock{marked(0, br(1, 2, 2)), marked(1, ret(1)), marked(2, ret(2))}, []api.RBlock{marked(0, br(1, 1, 1)), marked(2, ret(2))}},
		// what is not come to leads to what is, to itself, to one another, to 0
		{[]api.RBlock{marked(0, ret(0)), marked(1, jump(0)), marked(2, jump(2)), marked(3, jump(4)), marked(4, br(1, 3, 0))}, []api.RBlock{marked(0, ret(0))}},
		{[]api.RBlock{marked(0, jump(4)), marked(1, br(1, 2, 4)), marked(2, jump(1)), marked(3, jump(3)), marked(4, jump(0))}, []api.RBlock{marked(0, jump(1)), marked(4, jump(0))}},
		// 0 leads to itself
		{[]api.RBlock{marked(0, jump(0)), marked(1, ret(1))}, []api.RBlock{marked(0, jump(0))}},
		// back, in falling order
		{[]api.RBlock{marked(0, jump(5)), marked(1, ret(1)), marked(2, ret(0)), marked(3, jump(2)), marked(4, ret(1)), marked(5, jump(3))}, []api.RBlock{marked(0, jump(3)), marked(2, ret(0)), marked(3, jump(1)), marked(5, jump(2))}},
	} {
		expect(t, dead.Unreach, fn(1, 9, x.l...), fn(1, 9, x.want...))
	}
	expect(t, dead.Unreach, api.RFn{}, api.RFn{})
	expect(t, dead.Run, api.RFn{}, api.RFn{})
}

// A branch leads both ways, whatever its A is known to be: to fold that is left.
func TestUnreachTakesNoSide(t *testing.T) {
	f := fn(0, 1, block(br(0, 1, 2), konst(0, val.Int(1))), block(ret(0), out(0)), block(ret(0), konst(0, val.Nil())))
	expect(t, dead.Unreach, f, f)
	expect(t, dead.Run, f, f)
}

// What a block has besides its end stays, Deep too; only ends are changed, and of them only where they lead.
func TestUnreachKeepsAllElse(t *testing.T) {
	l := code(deep(3, konst(1, val.Text("x"))), deep(1, mov(1, 1)), mov(2, 1), deep(2, tick(5)), call(0, 4, 2, 2), list(0, 4, 4), out(2))
	expect(t, dead.Unreach,
		fn(2, 9, block(br(8, 2, 3), l...), block(ret(0)), block(jump(3), l...), block(ret(2), l...)),
		fn(2, 9, block(br(8, 1, 2), l...), block(jump(2), l...), block(ret(2), l...)))
}

// What leads to no block leads to none, and stays; an end that is none, and one that returns, lead nowhere, whatever stands in them.
func TestUnreachOfWhatIsNone(t *testing.T) {
	gone, last := marked(1, jump(0)), marked(2, ret(0))
	for _, n := range []int{math.MinInt, -3, -1, 3, 4, 77, 2000, 1 << 32, math.MaxInt} {
		expect(t, dead.Unreach, fn(0, 9, marked(0, jump(n)), gone, last), fn(0, 9, marked(0, jump(n))))
		expect(t, dead.Unreach, fn(0, 9, marked(0, br(1, n, 2)), gone, last), fn(0, 9, marked(0, br(1, n, 1)), last))
		expect(t, dead.Unreach, fn(0, 9, marked(0, br(1, 2, n)), gone, last), fn(0, 9, marked(0, br(1, 1, n)), last))
		expect(t, dead.Unreach, fn(0, 9, marked(0, br(1, n, n)), gone, last), fn(0, 9, marked(0, br(1, n, n))))
		expect(t, dead.Unreach, fn(0, 9, marked(0, api.RTerm{Kind: api.TJump, A: 2, To: 2, Else: n}), gone, last), fn(0, 9, marked(0, api.RTerm{Kind: api.TJump, A: 2, To: 1, Else: n}), last))
	}
	for _, kind := range []int{math.MinInt, -1, 0, api.TRet, 4, 99, 1<<32 + api.TJump, math.MaxInt} {
		odd := api.RTerm{Kind: kind, A: 2, To: 2, Else: 2}
		expect(t, dead.Unreach, fn(0, 9, marked(0, odd), gone, last), fn(0, 9, marked(0, odd)))
		expect(t, dead.Unreach, fn(0, 9, marked(0, jump(2)), gone, marked(2, odd)), fn(0, 9, marked(0, jump(1)), marked(2, odd)))
	}
	// an Else that a TJump does not have leads nowhere, and is not moved
	odd := api.RTerm{Kind: api.TJump, To: 2, Else: 1}
	expect(t, dead.Unreach, fn(0, 9, marked(0, odd), gone, last), fn(0, 9, marked(0, api.RTerm{Kind: api.TJump, To: 1, Else: 1}), last))
}

// Of 2,000 blocks each second one, all but one, none and those of a half are not come to.
func TestUnreachOfManyBlocks(t *testing.T) {
	row := func(next func(n int) int) api.RFn {
		f := fn(0, 200, make([]api.RBlock, 2000)...)
		for n := range f.Blocks {
			f.Blocks[n] = marked(n%200, jump(next(n)%2000))
		}
		return f
	}
	left := func(f api.RFn, every, count int) {
		t.Helper()
		g := dead.Unreach(f)
		if len(g.Blocks) != count {
			t.Fatal(len(g.Blocks), count)
		}
		for n, b := range g.Blocks {
			if b.Ins[0].A != n*every%200 || b.Term != jump((n+1)%count) {
				t.Fatal(n, b)
			}
		}
	}
	left(row(func(n int) int { return n + 1 }), 1, 2000)
	left(row(func(n int) int { return n + 2 }), 2, 1000)
	left(row(func(n int) int { return n + 1000 }), 1000, 2)
	left(row(func(n int) int { return n }), 1, 1)
	back := row(func(n int) int { return n + 1998 })
	if g := dead.Unreach(back); len(g.Blocks) != 1000 || g.Blocks[0].Term != jump(999) || g.Blocks[999].Term != jump(998) || g.Blocks[1].Term != jump(0) {
		t.Error(short(g))
	}
}
