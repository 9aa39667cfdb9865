package sim

import (
	"ratline/api"
	"ratline/ops"
	"ratline/record"
	"ratline/val"
)

// machine runs a program that Check finds good, and so does not ask whether what an Ins or an end takes is there.
type machine struct {
	fns     []api.RFn
	calls   []call     // those that are open, the innermost last: a list of the machine's own, so that as many may be open as there is fuel
	nothing *api.Value // what a register holds at first
	told    *record.Record
}

// call is one that is open.
type call struct {
	blocks []api.RBlock
	block  int          // the block in which it is
	at     int          // the Ins of that block that comes next
	regs   []*api.Value // by pointer, since many calls may be open and a value is never changed
}

// run calls main and goes from block to block, until that call is closed, or something ends the run ahead of it.
func (m *machine) run(main int) api.Trace {
	m.open(main, nil)
innermost:
	c := &m.calls[len(m.calls)-1]
block:
	b := &c.blocks[c.block]
next:
	if c.at < len(b.Ins) {
		i := &b.Ins[c.at]
		c.at++
		if i.Op == api.RCall {
			m.open(i.N, c.valuesOf(i.L))
			goto innermost
		}
		if e := m.do(c, i); e != api.ROK {
			return m.told.Ended(e)
		}
		goto next
	}
	if b.Term.Kind != api.TRet {
		c.block, c.at = c.next(b.Term), 0
		goto block
	}
	v := c.regs[b.Term.A]
	m.shut(v)
	if len(m.calls) > 0 {
		goto innermost
	}
	return m.told.Returned(*v)
}

// open opens a call of fn, whose first registers hold the operands.
func (m *machine) open(fn int, operands []*api.Value) {
	f := &m.fns[fn]
	regs := make([]*api.Value, f.Regs)
	for r := copy(regs, operands); r < len(regs); r++ {
		regs[r] = m.nothing
	}
	m.calls = append(m.calls, call{blocks: f.Blocks, regs: regs})
}

// shut closes the innermost call, which returns v to the one that opened it, if there is one: by the RCall that was done last there.
func (m *machine) shut(v *api.Value) {
	last := len(m.calls) - 1
	m.calls = m.calls[:last]
	if last > 0 {
		c := &m.calls[last-1]
		c.regs[c.blocks[c.block].Ins[c.at-1].D] = v
	}
}

// do does an Ins that is no RCall, and tells whether the run ends by it.
func (m *machine) do(c *call, i *api.RIns) api.Run {
	switch i.Op {
	case api.RConst:
		c.regs[i.D] = &i.K
		return api.ROK
	case api.RMov:
		c.regs[i.D] = c.regs[i.A]
		return api.ROK
	case api.ROut:
		return m.told.Out(*c.regs[i.A])
	case api.RTick:
		return m.told.Tick(i.N)
	}
	v, e := c.made(i)
	if e == api.ROK {
		c.regs[i.D] = &v
	}
	return e
}

// made is what an Ins makes of other values.
func (c *call) made(i *api.RIns) (api.Value, api.Run) {
	switch i.Op {
	case api.RBin:
		return ops.Binary(i.N, *c.regs[i.A], *c.regs[i.B])
	case api.RUn:
		return ops.Unary(i.N, *c.regs[i.A])
	}
	return record.List(c.valuesOf(i.L))
}

// valuesOf are the values of those registers.
func (c *call) valuesOf(l []int) []*api.Value {
	values := make([]*api.Value, len(l))
	for k, r := range l {
		values[k] = c.regs[r]
	}
	return values
}

// next is the block to which an end leads that does not return.
func (c *call) next(t api.RTerm) int {
	if t.Kind == api.TBr && !val.Truth(*c.regs[t.A]) {
		return t.Else
	}
	return t.To
}
