package thread_test

import (
	"math"
	"testing"

	"ratline/api"
	"ratline/thread"
)

// Promise 16.1: Merge.

func TestMerge(t *testing.T) {
	expectAll(t, "Merge", thread.Merge, []made{
		// two, three, in order and out of it; what stands behind moves up
		{[]api.RBlock{marked(0, jump(1)), marked(1, ret(7))}, []api.RBlock{row(ret(7), 0, 1)}},
		{[]api.RBlock{marked(0, jump(1)), marked(1, jump(2)), marked(2, ret(7))}, []api.RBlock{row(ret(7), 0, 1, 2)}},
		{[]api.RBlock{marked(0, jump(2)), marked(1, ret(7)), marked(2, jump(1))}, []api.RBlock{row(ret(7), 0, 2, 1)}},
		{[]api.RBlock{marked(0, jump(3)), marked(1, jump(2)), marked(2, ret(7)), marked(3, jump(1))}, []api.RBlock{row(ret(7), 0, 3, 1, 2)}},
		{[]api.RBlock{marked(0, br(1, 4, 2)), marked(1, ret(7)), marked(2, jump(1)), marked(3, jump(0)), marked(4, br(1, 3, 4))}, []api.RBlock{marked(0, br(1, 3, 1)), row(ret(7), 2, 1), marked(3, jump(0)), marked(4, br(1, 2, 3))}},
		// the row stands where its first block stood, though others of it stood ahead
		{[]api.RBlock{marked(0, br(1, 3, 4)), marked(1, jump(4)), marked(2, jump(1)), marked(3, jump(2)), marked(4, ret(0))}, []api.RBlock{marked(0, br(1, 1, 2)), row(jump(2), 3, 2, 1), marked(4, ret(0))}},
		// several rows
		{[]api.RBlock{marked(0, br(1, 1, 4)), marked(1, jump(5)), marked(2, ret(2)), marked(3, ret(3)), marked(4, jump(3)), marked(5, jump(2))}, []api.RBlock{marked(0, br(1, 1, 2)), row(ret(2), 1, 5, 2), row(ret(3), 4, 3)}},
		// without Ins: the first, the second, both; a branch and a jump as the last end
		{[]api.RBlock{block(jump(1)), marked(1, ret(7))}, []api.RBlock{marked(1, ret(7))}},
		{[]api.RBlock{marked(0, jump(1)), block(br(7, 0, 2)), block(ret(0))}, []api.RBlock{marked(0, br(7, 0, 1)), block(ret(0))}},
		{ends(jump(1), jump(2), ret(0)), ends(ret(0))},
		{ends(jump(1), jump(2), br(0, 0, 2)), ends(jump(1), br(0, 0, 1))},
		// back to the first of them, and to itself
		{[]api.RBlock{marked(0, jump(1)), marked(1, jump(2)), marked(2, jump(0))}, []api.RBlock{row(jump(0), 0, 1, 2)}},
		{[]api.RBlock{marked(0, jump(1)), marked(1, br(7, 2, 0)), marked(2, ret(0))}, []api.RBlock{row(br(7, 1, 0), 0, 1), marked(2, ret(0))}},
		{[]api.RBlock{marked(0, br(1, 1, 3)), marked(1, jump(2)), marked(2, br(1, 1, 3)), marked(3, ret(0))}, []api.RBlock{marked(0, br(1, 1, 2)), row(br(1, 1, 2), 1, 2), marked(3, ret(0))}},
		// the end of a row that is not come to
		{[]api.RBlock{marked(0, ret(0)), marked(1, jump(2)), marked(2, jump(0))}, []api.RBlock{marked(0, ret(0)), row(jump(0), 1, 2)}},
		{[]api.RBlock{marked(0, ret(0)), marked(1, jump(3)), marked(2, ret(2)), marked(3, jump(2))}, []api.RBlock{marked(0, ret(0)), row(ret(2), 1, 3, 2)}},
	})
	expectSame(t, "Merge", thread.Merge, nil, ends(ret(5)), ends(br(5, 0, 0)), ends(br(0, 1, 2), ret(1), ret(2)))
}

// A block to which something else leads stays: another jump, a branch by To, by Else or by both, itself, a block that is not come to. One to which a branch alone leads stays too, though both of its ways do.
func TestWhatIsNotMerged(t *testing.T) {
	expectSame(t, "Merge", thread.Merge,
		ends(br(0, 1, 2), jump(3), jump(3), ret(0)),
		ends(br(0, 1, 2), jump(2), ret(0)), ends(br(0, 2, 1), jump(2), ret(0)),
		ends(jump(1), br(0, 1, 2), ret(0)), ends(jump(1), br(0, 2, 1), ret(0)),
		[]api.RBlock{marked(0, jump(1)), marked(1, jump(1))},
		ends(jump(1), ret(0), jump(1)), ends(jump(1), ret(0), br(0, 1, 0)), ends(jump(1), ret(0), br(0, 0, 1)), ends(jump(1), ret(0), br(0, 1, 1)),
		ends(br(0, 1, 1), ret(0)), ends(br(0, 1, 1), br(0, 0, 0)))
	expectAll(t, "Merge", thread.Merge, []made{
		// once as To and once as Else of one end, behind a row
		{ends(jump(1), br(0, 2, 2), ret(0)), ends(br(0, 1, 1), ret(0))},
		// one of two jumps there is that of a row that is laid together, which it stays
		{ends(br(0, 1, 2), jump(4), jump(3), jump(4), ret(0)), ends(br(0, 1, 2), jump(3), jump(3), ret(0))},
	})
}

// A jump to block 0 stays, also where nothing else leads there, and so does one of a block to itself.
func TestMergeOfTheFirstAndOfItself(t *testing.T) {
	expectSame(t, "Merge", thread.Merge, ends(jump(0)), ends(ret(0), jump(0)), ends(ret(0), jump(1)), []api.RBlock{marked(0, ret(0)), marked(1, jump(1)), marked(2, jump(0))})
	expectAll(t, "Merge", thread.Merge, []made{
		{[]api.RBlock{marked(0, ret(0)), marked(1, jump(2)), marked(2, jump(0))}, []api.RBlock{marked(0, ret(0)), row(jump(0), 1, 2)}},
		{[]api.RBlock{marked(0, jump(2)), marked(1, jump(0)), marked(2, jump(1))}, []api.RBlock{row(jump(0), 0, 2, 1)}},
	})
}

// Where nothing leads into a circle from elsewhere, it is laid together from its least block on, which then leads to itself.
func TestMergeOfCircles(t *testing.T) {
	expectAll(t, "Merge", thread.Merge, []made{
		{[]api.RBlock{marked(0, ret(0)), marked(1, jump(2)), marked(2, jump(1))}, []api.RBlock{marked(0, ret(0)), row(jump(1), 1, 2)}},
		{[]api.RBlock{marked(0, ret(0)), marked(1, jump(3)), marked(2, jump(1)), marked(3, jump(2))}, []api.RBlock{marked(0, ret(0)), row(jump(1), 1, 3, 2)}},
		{[]api.RBlock{marked(0, ret(0)), marked(1, jump(2)), marked(2, jump(3)), marked(3, jump(1))}, []api.RBlock{marked(0, ret(0)), row(jump(1), 1, 2, 3)}},
		{[]api.RBlock{marked(0, ret(0)), marked(1, jump(4)), marked(2, jump(6)), marked(3, jump(5)), marked(4, jump(1)), marked(5, jump(2)), marked(6, jump(3)), marked(7, jump(0))}, []api.RBlock{marked(0, ret(0)), row(jump(1), 1, 4), row(jump(2), 2, 6, 3, 5), marked(7, jump(0))}},
		{ends(ret(0), jump(2), jump(1)), ends(ret(0), jump(1))},
		// with a way in: what is led into stays, the rest of the circle stands behind it
		{[]api.RBlock{marked(0, jump(3)), marked(1, jump(2)), marked(2, jump(3)), marked(3, jump(1))}, []api.RBlock{marked(0, jump(1)), row(jump(1), 3, 1, 2)}},
		{[]api.RBlock{marked(0, jump(1)), marked(1, jump(2)), marked(2, jump(1))}, []api.RBlock{marked(0, jump(1)), row(jump(1), 1, 2)}},
		// with two ways in
		{[]api.RBlock{marked(0, br(1, 1, 3)), marked(1, jump(2)), marked(2, jump(3)), marked(3, jump(4)), marked(4, jump(1))}, []api.RBlock{marked(0, br(1, 1, 2)), row(jump(2), 1, 2), row(jump(1), 3, 4)}},
	})
}

// What leads to no block leads nowhere, and stays; an end that is none leads nowhere, but may stand behind a row. What an end does not have leads nowhere and is not moved.
func TestMergeOfNone(t *testing.T) {
	for _, n := range []int{math.MinInt, -3, -1, 3, 77, 2000, 1 << 32, math.MaxInt} {
		expectAll(t, "Merge", thread.Merge, []made{
			{[]api.RBlock{marked(0, jump(1)), marked(1, jump(2)), marked(2, jump(n))}, []api.RBlock{row(jump(n), 0, 1, 2)}},
			{[]api.RBlock{marked(0, jump(1)), marked(1, br(1, n, 2)), marked(2, ret(0))}, []api.RBlock{row(br(1, n, 1), 0, 1), marked(2, ret(0))}},
			{[]api.RBlock{marked(0, jump(1)), marked(1, br(1, 2, n)), marked(2, ret(0))}, []api.RBlock{row(br(1, 1, n), 0, 1), marked(2, ret(0))}},
			{[]api.RBlock{marked(0, jump(1)), marked(1, ret(0)), marked(2, br(1, n, n))}, []api.RBlock{row(ret(0), 0, 1), marked(2, br(1, n, n))}},
		})
		expectSame(t, "Merge", thread.Merge, ends(jump(n), ret(0), ret(0)), ends(jump(n), jump(n), jump(n)))
	}
	for _, kind := range []int{math.MinInt, -1, 0, api.TRet, 4, 99, 1<<32 + api.TJump, math.MaxInt} {
		odd := api.RTerm{Kind: kind, A: 2, To: 1, Else: 2}
		expectSame(t, "Merge", thread.Merge, []api.RBlock{marked(0, odd), marked(1, ret(0)), marked(2, ret(0))})
		expectAll(t, "Merge", thread.Merge, []made{
			{[]api.RBlock{marked(0, jump(1)), marked(1, odd), marked(2, ret(0))}, []api.RBlock{row(odd, 0, 1), marked(2, ret(0))}},
			{[]api.RBlock{marked(0, jump(2)), marked(1, ret(0)), marked(2, odd)}, []api.RBlock{row(odd, 0, 2), marked(1, ret(0))}},
		})
	}
	// an Else that a TJump does not have, ahead of what is laid together and behind it
	odd := api.RTerm{Kind: api.TJump, A: 5, To: 1, Else: 2}
	behind := api.RTerm{Kind: api.TJump, A: 5, To: 0, Else: 2}
	expectAll(t, "Merge", thread.Merge, []made{
		{[]api.RBlock{marked(0, odd), marked(1, jump(2)), marked(2, ret(0))}, []api.RBlock{row(ret(0), 0, 1, 2)}},
		{[]api.RBlock{marked(0, jump(1)), marked(1, behind), marked(2, ret(0))}, []api.RBlock{row(behind, 0, 1), marked(2, ret(0))}},
	})
}
