package fold

import (
	"slices"

	"ratline/api"
	"ratline/val"
)

// Analyse tells of each block of f what is known ahead of it.
func Analyse(f api.RFn) []State {
	a := analysed(f)
	l := make([]State, len(a.points))
	for n, p := range a.points {
		l[n] = State{Reached: p.reached, Cells: make([]Cell, a.registers)}
		for r, e := range p.cells {
			l[n].Cells[r] = own(a.book.cell(e))
		}
	}
	return l
}

// Run is f with what is known of it laid down.
func Run(f api.RFn) api.RFn {
	a := analysed(f)
	g := api.RFn{Name: f.Name, Params: f.Params, Regs: f.Regs, Blocks: make([]api.RBlock, len(a.points))}
	for n, p := range a.points {
		b := api.RBlock{Ins: make([]api.RIns, len(p.places)), Term: p.term}
		if p.reached {
			b.Term = p.end
		}
		for k, x := range p.places {
			b.Ins[k] = a.folded(x)
		}
		g.Blocks[n] = b
	}
	return g
}

// folded is p's Ins, or the RConst that it always is. (In a block that is not come to none leaves anything.)
func (a *analysis) folded(p place) api.RIns {
	i := p.ins
	switch i.Op {
	case api.RMov, api.RBin, api.RUn, api.RList:
		if p.left.isValue() {
			return api.RIns{Op: api.RConst, D: i.D, Deep: i.Deep, K: val.Copy(a.book.cell(p.left).V)}
		}
	}
	i.K, i.L = val.Copy(i.K), slices.Clone(i.L)
	return i
}
