package gen

import "ratline/api"

func (m *maker) statement(n *api.Node) {
	switch n.Kind {
	case api.NLet:
		m.expr(&n.L[0])
		m.lay(api.SStore, m.slot())
	case api.NSet:
		slot := m.slot() // scope tells it ahead of those of the expression
		m.expr(&n.L[0])
		m.lay(api.SStore, slot)
	case api.NDo:
		m.expr(&n.L[0])
		m.lay(api.SPop, 0)
	case api.NPrint:
		m.expr(&n.L[0])
		m.lay(api.SOut, 0)
	case api.NReturn:
		m.returns(n)
	case api.NBlock:
		m.block(n)
	case api.NIf:
		m.choice(n)
	case api.NWhile:
		m.while(n)
	case api.NBreak:
		m.loop.breaks = append(m.loop.breaks, m.ahead(api.SJump))
	case api.NContinue:
		m.loop.continues = append(m.loop.continues, m.ahead(api.SJump))
	}
}

func (m *maker) returns(n *api.Node) {
	if len(n.L) == 0 {
		m.giveNil()
	} else {
		m.expr(&n.L[0])
	}
	m.lay(api.SRet, 0)
}

// block lays a block's statements. Those of blocks right within it are gone to by an own list: blocks lay nothing, so that no bound of the code keeps them from being deeper than calls may.
func (m *maker) block(n *api.Node) {
	open := [][]api.Node{n.L}
	for len(open) > 0 {
		last := len(open) - 1
		if len(open[last]) == 0 {
			open = open[:last]
			continue
		}
		s := &open[last][0]
		open[last] = open[last][1:]
		if s.Kind == api.NBlock {
			open = append(open, s.L)
		} else {
			m.statement(s)
		}
	}
}

func (m *maker) choice(n *api.Node) {
	m.expr(&n.L[0])
	toElse := m.ahead(api.SBrz)
	m.statement(&n.L[1])
	if len(n.L) == 2 {
		toElse()
		return
	}
	behind := m.ahead(api.SJump)
	toElse()
	m.statement(&n.L[2])
	behind()
}

func (m *maker) while(n *api.Node) {
	around := m.loop
	m.loop = &loop{}
	start := len(m.code)
	m.expr(&n.L[0])
	behind := m.ahead(api.SBrz)
	m.statement(&n.L[1])
	land(m.loop.continues)
	m.tick()
	m.lay(api.SJump, start)
	behind()
	land(m.loop.breaks)
	m.loop = around
}
