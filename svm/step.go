package svm

import (
	"ratline/api"
	"ratline/ops"
	"ratline/record"
	"ratline/val"
)

// step does the next instruction of the innermost call, and tells whether the run ends by it.
func (m *machine) step() api.Run {
	c := &m.calls[len(m.calls)-1]
	f := &m.fns[c.fn]
	i := f.Code[c.at]
	c.at++
	switch i.Op {
	case api.SConst:
		m.push(&f.Consts[i.A])
	case api.SLoad:
		m.push(m.values[c.base+i.A])
	case api.SStore:
		v := m.pop()
		m.values[c.base+i.A] = v
	case api.SPop:
		m.pop()
	case api.SJump:
		c.at = i.A
	case api.SBrz:
		if !val.Truth(*m.pop()) {
			c.at = i.A
		}
	case api.SCall:
		m.open(i.A)
	case api.SRet:
		m.shut()
	case api.STick:
		return m.told.Tick(i.A)
	case api.SOut:
		return m.told.Out(*m.pop())
	default:
		return m.work(i)
	}
	return api.ROK
}

// work does an instruction that makes a value of others.
func (m *machine) work(i api.SIns) api.Run {
	switch i.Op {
	case api.SBin:
		l := m.take(2)
		return m.keep(ops.Binary(i.A, *l[0], *l[1]))
	case api.SUn:
		return m.keep(ops.Unary(i.A, *m.pop()))
	}
	return m.keep(record.List(m.take(i.A)))
}

// keep pushes a value that has just been made, if it has been.
func (m *machine) keep(v api.Value, e api.Run) api.Run {
	if e == api.ROK {
		m.push(&v)
	}
	return e
}
