package thread_test

import (
	"math"
	"testing"

	"ratline/api"
	"ratline/thread"
)

// Promise 16.1: Run.

func TestRun(t *testing.T) {
	expectAll(t, "Run", thread.Run, []made{
		// chains are gone, from the first block on and between others
		{ends(jump(1), ret(0)), ends(ret(0))},
		{ends(jump(4), jump(3), ret(1), jump(2), jump(1)), ends(ret(1))},
		{[]api.RBlock{marked(0, br(1, 1, 2)), block(jump(4)), block(jump(3)), block(jump(5)), marked(4, ret(4)), marked(5, ret(5))}, []api.RBlock{marked(0, br(1, 1, 2)), marked(4, ret(4)), marked(5, ret(5))}},
		// both ways of a branch meet: at once, behind chains; what is then led to by one jump alone stands behind it
		{[]api.RBlock{marked(0, br(1, 1, 1)), marked(1, ret(0))}, []api.RBlock{row(ret(0), 0, 1)}},
		{[]api.RBlock{marked(0, br(1, 1, 2)), block(jump(3)), block(jump(4)), block(jump(4)), marked(4, ret(0))}, []api.RBlock{row(ret(0), 0, 4)}},
		// a branch that is a jump only behind Ends, and leads on itself then
		{ends(br(1, 1, 2), br(1, 3, 3), br(1, 3, 4), ret(0), jump(3)), ends(ret(0))},
		{[]api.RBlock{marked(0, br(1, 1, 2)), block(br(1, 3, 3)), marked(2, ret(0)), block(br(1, 2, 4)), block(jump(2))}, []api.RBlock{row(ret(0), 0, 2)}},
		// one to which nothing else leads only when a block is gone that is not come to
		{[]api.RBlock{marked(0, jump(2)), marked(1, jump(2)), marked(2, ret(0))}, []api.RBlock{row(ret(0), 0, 2)}},
		{[]api.RBlock{marked(0, jump(1)), marked(1, jump(3)), marked(2, br(1, 3, 1)), marked(3, ret(0))}, []api.RBlock{row(ret(0), 0, 1, 3)}},
		{[]api.RBlock{marked(0, jump(1)), marked(1, ret(0)), marked(2, br(1, 1, 1)), block(jump(1)), block(br(1, 1, 3))}, []api.RBlock{row(ret(0), 0, 1)}},
		// one to which a second way led past a block that is gone
		{[]api.RBlock{marked(0, br(1, 1, 2)), block(jump(3)), block(jump(3)), marked(3, ret(0))}, []api.RBlock{row(ret(0), 0, 3)}},
		{[]api.RBlock{marked(0, br(1, 1, 3)), block(jump(2)), marked(2, ret(0)), marked(3, jump(1))}, []api.RBlock{marked(0, br(1, 1, 2)), marked(2, ret(0)), marked(3, jump(1))}},
		// a loop that comes back past a chain
		{[]api.RBlock{block(jump(1)), marked(1, br(1, 2, 4)), marked(2, jump(3)), block(jump(0)), marked(4, ret(0))}, []api.RBlock{block(jump(1)), marked(1, br(1, 2, 3)), marked(2, jump(1)), marked(4, ret(0))}},
		{[]api.RBlock{marked(0, jump(1)), block(jump(2)), block(jump(0))}, []api.RBlock{marked(0, jump(0))}},
		{[]api.RBlock{marked(0, jump(1)), marked(1, jump(2)), block(jump(1))}, []api.RBlock{marked(0, jump(1)), marked(1, jump(1))}},
		// circles: one that is come to is one block, which leads to itself
		{ends(jump(0)), ends(jump(0))},
		{ends(jump(1), jump(0)), ends(jump(0))},
		{ends(jump(2), ret(0), jump(3), jump(2)), ends(jump(1), jump(1))},
		{[]api.RBlock{marked(0, br(1, 1, 4)), block(jump(2)), block(jump(3)), block(jump(1)), marked(4, jump(3))}, []api.RBlock{marked(0, br(1, 1, 2)), block(jump(1)), marked(4, jump(1))}},
		{ends(ret(0), jump(2), jump(1)), ends(ret(0))},
		// one that closes only behind Ends
		{ends(br(1, 1, 1), br(1, 0, 0)), ends(jump(0))},
		{ends(br(1, 1, 1), br(1, 2, 2), br(1, 0, 1)), ends(jump(1), jump(1))},
		{[]api.RBlock{marked(0, jump(2)), block(br(1, 2, 2)), block(br(1, 1, 1))}, []api.RBlock{marked(0, jump(1)), block(jump(1))}},
		// rows that are not come to are gone, though nothing else leads to their blocks
		{[]api.RBlock{marked(0, ret(0)), marked(1, jump(2)), marked(2, jump(0))}, []api.RBlock{marked(0, ret(0))}},
	})
	expectSame(t, "Run", thread.Run, nil, ends(ret(0)), ends(br(0, 0, 1), ret(0)), []api.RBlock{marked(0, br(1, 1, 2)), marked(1, jump(2)), marked(2, ret(0))}, []api.RBlock{marked(0, jump(0))})
}

// What leads to no block leads to -1, past blocks too; an end that is none is the last one of its row.
func TestRunOfNone(t *testing.T) {
	for _, n := range []int{math.MinInt, -3, -1, 3, 77, 2000, 1 << 32, math.MaxInt} {
		expectAll(t, "Run", thread.Run, []made{
			{ends(jump(n), ret(0), ret(0)), ends(jump(-1))},
			{ends(br(0, 1, 2), jump(n), jump(-7)), ends(jump(-1))},
			{[]api.RBlock{marked(0, br(0, 1, 2)), block(jump(n)), marked(2, br(0, n, 0))}, []api.RBlock{marked(0, br(0, -1, 1)), marked(2, br(0, -1, 0))}},
			{[]api.RBlock{marked(0, jump(2)), marked(1, ret(0)), marked(2, jump(n))}, []api.RBlock{row(jump(-1), 0, 2)}},
		})
	}
	for _, kind := range []int{math.MinInt, -1, 0, 4, 99, 1<<32 + api.TJump, math.MaxInt} {
		odd := api.RTerm{Kind: kind, A: 2, To: 1, Else: 1}
		expectAll(t, "Run", thread.Run, []made{
			{ends(odd, ret(0)), ends(odd)},
			{ends(br(0, 1, 2), jump(2), odd), ends(odd)},
			{[]api.RBlock{marked(0, jump(2)), marked(1, ret(0)), marked(2, odd)}, []api.RBlock{row(odd, 0, 2)}},
		})
	}
}
