package inline

import (
	"ratline/api"
	"ratline/sim"
)

// greatest is the greatest Size of a function.
const greatest = 14000

// mostSize is up to which Size functions are laid open.
func mostSize(size int) int {
	return max(size, 0)
}

// mostDeep is below which Deep calls are laid open.
func mostDeep(deep int) int {
	return min(max(deep, 0), 8)
}

// registers is how many registers f has.
func registers(f api.RFn) int {
	return max(f.Regs, 0)
}

// body is what stands in the place of a call, and what room it takes there.
type body struct {
	api.RFn
	size, registers, returns int
}

func bodyOf(f api.RFn) body {
	b := body{RFn: f, size: sim.Size(f), registers: registers(f)}
	for _, x := range f.Blocks {
		if x.Term.Kind == api.TRet {
			b.returns++
		}
	}
	return b
}

// room tells whether there is room for a body in the place of a call, and takes it then.
type room func(call *api.RIns, b *body) bool

// roomIn is what room there is in f. The call is gone, but for a block that is what stood behind it; each register of the body begins with something, and each of its returns writes what it returns.
func roomIn(f api.RFn) room {
	regs, count, size := registers(f), len(f.Blocks), sim.Size(f)
	return func(call *api.RIns, b *body) bool {
		more := b.size + b.registers + b.returns - len(call.L)
		if isFull(regs, b.registers, count+len(b.Blocks)+1, size+more) {
			return false
		}
		regs += b.registers
		count += len(b.Blocks) + 1
		size += more
		return true
	}
}

// isFull tells whether a function has more than may be, with some registers and with more of them behind.
func isFull(regs, more, blocks, size int) bool {
	return regs > api.MaxVirtual-more || blocks > api.MaxBlocks || size > greatest
}

// mayBeFull tells whether f has more than may be with a body of g in it, if that takes as much as ever it may. (Of g alone no more than a few registers are counted.)
func mayBeFull(f, g api.RFn) bool {
	more := registers(g)
	most := sim.Size(f) + sim.Size(g) + 3*min(more, api.MaxVirtual) + len(g.Blocks)
	return isFull(registers(f), more, len(f.Blocks)+len(g.Blocks)+1, most)
}
