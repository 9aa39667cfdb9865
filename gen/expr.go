package gen

import (
	"ratline/api"
	"ratline/cplx"
	"ratline/val"
)

// builtin is what scope raises a built-in op's number by among the calls.
const builtin = 1000

func (m *maker) expr(n *api.Node) {
	switch n.Kind {
	case api.EInt, api.EImag, api.EText, api.ENil:
		m.give(valueOf(n))
	case api.EVar:
		m.lay(api.SLoad, m.slot())
	case api.EAnd:
		m.and(n)
	case api.EOr:
		m.or(n)
	case api.EBin:
		m.operands(n)
		m.lay(api.SBin, n.Op)
	case api.EUn:
		m.operands(n)
		m.lay(api.SUn, n.Op)
	case api.EList:
		m.operands(n)
		m.lay(api.SList, len(n.L))
	case api.ECall:
		m.operands(n)
		m.call(next(&m.calls), len(n.L))
	}
}

func (m *maker) operands(n *api.Node) {
	for i := range n.L {
		m.expr(&n.L[i])
	}
}

// call lays the call of what has that number among scope's.
func (m *maker) call(number, operands int) {
	switch {
	case number < builtin:
		m.tick()
		m.code = append(m.code, api.SIns{Op: api.SCall, A: number, B: operands})
	case operands == 2:
		m.lay(api.SBin, number-builtin)
	default:
		m.lay(api.SUn, number-builtin)
	}
}

func (m *maker) and(n *api.Node) {
	var no []func()
	for i := range n.L {
		m.expr(&n.L[i])
		no = append(no, m.ahead(api.SBrz))
	}
	m.tell(1, no, 0)
}

func (m *maker) or(n *api.Node) {
	var yes []func()
	for i := range n.L {
		m.expr(&n.L[i])
		m.lay(api.SUn, api.ONot)
		yes = append(yes, m.ahead(api.SBrz))
	}
	m.tell(0, yes, 1)
}

// tell lays what is told if none of the jumps is taken, and else.
func (m *maker) tell(undecided int64, jumps []func(), decided int64) {
	m.give(val.Int(undecided))
	behind := m.ahead(api.SJump)
	land(jumps)
	m.give(val.Int(decided))
	behind()
}

// valueOf is what a node tells that is a value itself.
func valueOf(n *api.Node) api.Value {
	switch n.Kind {
	case api.EInt:
		return val.Int(n.N)
	case api.EImag:
		return val.Cx(cplx.Of(0, n.N))
	case api.EText:
		return val.Text(n.S)
	}
	return val.Nil()
}
