package thread

import (
	"ratline/api"
	"ratline/blocks"
	"ratline/graph"
	"ratline/sim"
)

// merged are the blocks of f, which is changed by that, laid together. To lay two of them together leaves what leads to all others, so that what is to be laid together may be told ahead.
func merged(f api.RFn) []api.RBlock {
	next := followers(f)
	gone := behindOthers(next)
	var left []api.RBlock
	places := make([]int, len(f.Blocks))
	for n, isGone := range gone {
		if isGone { // nothing leads there any more
			continue
		}
		places[n] = len(left)
		left = append(left, row(f.Blocks, next, n))
	}
	blocks.Move(left, places)
	return left
}

// followers tells of each block the one that is to stand behind it: that to which it jumps, if that is not 0 or itself and nothing else leads there.
func followers(f api.RFn) []int {
	from := graph.Preds(sim.Graph(f))
	next := make([]int, len(f.Blocks))
	for n, b := range f.Blocks {
		next[n] = none
		to := b.Term.To
		if b.Term.Kind == api.TJump && to != 0 && to != n && blocks.Has(from, to) && len(from[to]) == 1 {
			next[n] = to
		}
	}
	return next
}

// behindOthers tells which blocks come to stand behind another one. Where a row goes round, it begins with its least block, which is looked at first.
func behindOthers(next []int) []bool {
	gone := make([]bool, len(next))
	for first := range next {
		if gone[first] {
			continue
		}
		for n := next[first]; n != none && n != first && !gone[n]; n = next[n] {
			gone[n] = true
		}
	}
	return gone
}

// row is block first of l with all that is to stand behind it.
func row(l []api.RBlock, next []int, first int) api.RBlock {
	whole := l[first]
	for n := next[first]; n != none && n != first; n = next[n] {
		whole.Ins = append(whole.Ins, l[n].Ins...)
		whole.Term = l[n].Term
	}
	return whole
}
