package svm

import (
	"ratline/api"
	"ratline/ops"
	"ratline/val"
)

// step does the next instruction of the innermost call, and tells whether the run ends by it.
func (m *machine) step() api.Run {
	c := &m.calls[len(m.calls)-1]
	f := &m.fns[c.fn]
	i := f.Code[c.at]
	c.at++
	switch i.Op {
	case api.SConst:
		m.push(&f.Consts[i.A])
	case api.SLoad:
		m.push(m.values[c.base+i.A])
	case api.SStore:
		v := m.pop()
		m.values[c.base+i.A] = v
	case api.SPop:
		m.pop()
	case api.SJump:
		c.at = i.A
	case api.SBrz:
		if !val.Truth(*m.pop()) {
			c.at = i.A
		}
	case api.SCall:
		m.open(i.A)
	case api.SRet:
		m.shut()
	case api.STick:
		return m.tell(api.Event{Kind: api.ETick, N: i.A})
	case api.SOut:
		return m.tell(api.Event{Kind: api.EOut, V: *m.pop()})
	default:
		return m.work(i)
	}
	return api.ROK
}

// work does an instruction that makes a value of others.
func (m *machine) work(i api.SIns) api.Run {
	switch i.Op {
	case api.SBin:
		l := m.take(2)
		return m.keep(ops.Binary(i.A, *l[0], *l[1]))
	case api.SUn:
		return m.keep(ops.Unary(i.A, *m.pop()))
	}
	return m.keep(listOf(m.take(i.A)))
}

// keep pushes a value that has just been made, if it has been.
func (m *machine) keep(v api.Value, e api.Run) api.Run {
	if e == api.ROK {
		m.push(&v)
	}
	return e
}

// listOf is a list of those values; RBig, if it would be too great or too deep, which is all that val can have against it.
func listOf(taken []*api.Value) (api.Value, api.Run) {
	l := make([]api.Value, len(taken))
	for i, v := range taken {
		l[i] = *v
	}
	v := val.List(l)
	if v.Kind != api.VList {
		return val.Nil(), api.RBig
	}
	return v, api.ROK
}

// tell tells an event, if there is fuel for it. What it tells is a copy: else two events might share a list.
func (m *machine) tell(e api.Event) api.Run {
	if m.fuel < 1 {
		return api.RFuel
	}
	m.fuel--
	e.V = val.Copy(e.V)
	m.events = append(m.events, e)
	return api.ROK
}
