// Package blocks has what several passes do with the blocks of a function, and with what stands in them.
package blocks

import (
	"slices"

	"ratline/api"
	"ratline/val"
)

// Own is f in memory of its own. A K that is not Ok is nil there.
func Own(f api.RFn) api.RFn {
	f.Blocks = slices.Clone(f.Blocks)
	for n := range f.Blocks {
		b := &f.Blocks[n]
		b.Ins = slices.Clone(b.Ins)
		for k := range b.Ins {
			i := &b.Ins[k]
			i.K, i.L = val.Copy(i.K), slices.Clone(i.L)
		}
	}
	return f
}

// Read lets i read, of each register that it read, the one of which to tells. Its list is changed.
func Read(i *api.RIns, to func(r int) int) {
	switch i.Op {
	case api.RMov, api.RUn, api.ROut:
		i.A = to(i.A)
	case api.RBin:
		i.A, i.B = to(i.A), to(i.B)
	case api.RCall, api.RList:
		for n, r := range i.L {
			i.L[n] = to(r)
		}
	}
}

// Led is t, which leads to where to tells of each place to which it led.
func Led(t api.RTerm, to func(n int) int) api.RTerm {
	switch t.Kind {
	case api.TBr:
		t.To, t.Else = to(t.To), to(t.Else)
	case api.TJump:
		t.To = to(t.To)
	}
	return t
}

// Move leads the ends of l to where blocks are now, of which places tells. What was no block is none now either, if there are no more of them.
func Move(l []api.RBlock, places []int) {
	for n := range l {
		l[n].Term = Led(l[n].Term, func(to int) int {
			if Has(places, to) {
				return places[to]
			}
			return to
		})
	}
}

// Has tells whether l has something at place n.
func Has[T any](l []T, n int) bool {
	return n >= 0 && n < len(l)
}
