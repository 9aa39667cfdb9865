package live

import (
	"slices"

	"ratline/api"
	"ratline/graph"
	"ratline/sim"
)

// change is what code does to what is live: reads are those that it reads ahead of each write of its own.
type change struct{ reads, writes set }

func changeOf(i api.RIns) change {
	return change{reads: setOf(reads(i)...), writes: setOf(Def(i))}
}

func changeOfEnd(t api.RTerm) change {
	return change{reads: setOf(Ends(t)...)}
}

// changeOfBlock is that of all of b's Ins and of its end, so that a block is gone through once, however often what is live behind it grows.
func changeOfBlock(b api.RBlock) change {
	c := changeOfEnd(b.Term)
	for _, i := range slices.Backward(b.Ins) {
		first := changeOf(i)
		c = change{reads: first.ahead(c.reads), writes: c.writes.with(first.writes)}
	}
	return c
}

// ahead is what is live ahead of the code, if behind it is what is live behind it.
func (c change) ahead(behind set) set {
	return behind.without(c.writes).with(c.reads)
}

// flow is of each block what is live ahead of it and behind its end.
type flow struct{ in, out []set }

// flowOf lets what is live ahead of a block grow into those that lead to it, from nothing on, until nothing grows: a block is looked at again only if what is live behind it has grown, which it does at most once a register.
func flowOf(f api.RFn) flow {
	w := flow{in: make([]set, len(f.Blocks)), out: make([]set, len(f.Blocks))}
	changes, open := make([]change, len(f.Blocks)), make([]int, len(f.Blocks))
	for n, b := range f.Blocks {
		changes[n], open[n] = changeOfBlock(b), n
	}
	from := graph.Preds(sim.Graph(f))
	for len(open) > 0 {
		last := len(open) - 1
		at := open[last]
		open = open[:last]
		w.in[at] = changes[at].ahead(w.out[at])
		for _, p := range from[at] {
			if grown := w.out[p].with(w.in[at]); grown != w.out[p] {
				w.out[p] = grown
				open = append(open, p)
			}
		}
	}
	return w
}
