package fold

import (
	"slices"

	"ratline/api"
	"ratline/live"
	"ratline/val"
)

// place is an Ins as it is gone through again and again.
type place struct {
	ins  api.RIns
	uses []int
	def  int
	read []entry // of uses, when left was worked out
	left entry   // what it leaves in D's place; none, if it has not been come to or has no D
}

// point is a block as far as the analysis has come with it.
type point struct {
	places  []place
	term    api.RTerm
	end     api.RTerm // term, or the jump that it always is
	reached bool
	cells   []entry // ahead of it, if it is reached
}

// analysis is what is known of a function.
type analysis struct {
	book      book
	points    []point
	again     again
	registers int
}

// again has the blocks that are to be looked at again, each of them once.
type again struct {
	blocks []int
	is     []bool
}

func (l *again) add(n int) {
	if !l.is[n] {
		l.is[n] = true
		l.blocks = append(l.blocks, n)
	}
}

// take takes a block off the list; false, if it is empty.
func (l *again) take() (int, bool) {
	last := len(l.blocks) - 1
	if last < 0 {
		return 0, false
	}
	n := l.blocks[last]
	l.blocks, l.is[n] = l.blocks[:last], false
	return n, true
}

// analysed lets what is known flow from block 0 on, from block to block, until nothing changes. A cell changes at most twice, from nothing to a value to anything, so that this ends; and nothing is taken up that does not have to hold, so that the least solution is left.
func analysed(f api.RFn) *analysis {
	a := newAnalysis(f)
	if len(a.points) > 0 {
		a.flow(0, a.starting(f.Params))
	}
next:
	n, more := a.again.take()
	if !more {
		return a
	}
	behind := a.through(n)
	p := &a.points[n]
	p.end = a.ending(p.term, behind)
	switch p.end.Kind {
	case api.TJump:
		a.flow(p.end.To, behind)
	case api.TBr:
		a.flow(p.end.To, behind)
		a.flow(p.end.Else, behind)
	}
	goto next
}

func newAnalysis(f api.RFn) *analysis {
	a := &analysis{
		book:   newBook(),
		points: make([]point, len(f.Blocks)),
		again:  again{is: make([]bool, len(f.Blocks))},
		// No more than sound code may have, so that what is kept is small whatever Regs says.
		registers: min(max(f.Regs, 0), api.MaxVirtual),
	}
	for n, b := range f.Blocks {
		a.points[n] = point{places: placesOf(b.Ins), term: b.Term}
	}
	return a
}

func placesOf(l []api.RIns) []place {
	places := make([]place, len(l))
	for k, i := range l {
		uses := live.Uses(i)
		places[k] = place{ins: i, uses: uses, def: live.Def(i), read: make([]entry, len(uses))}
	}
	return places
}

// starting is what is known where a function begins.
func (a *analysis) starting(params int) []entry {
	empty := a.book.enter(Cell{Kind: api.KConst, V: val.Nil()})
	cells := make([]entry, a.registers)
	for r := range cells {
		cells[r] = empty
		if r < params {
			cells[r] = anything
		}
	}
	return cells
}

// flow lets what is known behind a block come to block n.
func (a *analysis) flow(n int, behind []entry) {
	if !isPlace(n, len(a.points)) {
		return
	}
	p := &a.points[n]
	if !p.reached {
		p.reached, p.cells = true, slices.Clone(behind)
		a.again.add(n)
		return
	}
	for r, e := range behind {
		if p.cells[r] != e && p.cells[r] != anything {
			p.cells[r] = anything
			a.again.add(n)
		}
	}
}

// through is what is known behind the Ins of block n.
func (a *analysis) through(n int) []entry {
	at := slices.Clone(a.points[n].cells)
	places := a.points[n].places
	for k := range places {
		if p := &places[k]; isPlace(p.def, len(at)) {
			a.pass(p, at)
			at[p.def] = p.left
		}
	}
	return at
}

// pass works out what p leaves. That is done again only if p reads something else than before, which is seldom, while a block is gone through often.
func (a *analysis) pass(p *place, at []entry) {
	isNew := p.left == none
	for n, r := range p.uses {
		if e := look(at, r); e != p.read[n] {
			p.read[n], isNew = e, true
		}
	}
	if isNew {
		p.left = a.book.enter(made(p.ins, func(r int) Cell { return a.book.cell(look(at, r)) }))
	}
}

// look is what is known of a register.
func look(at []entry, r int) entry {
	if !isPlace(r, len(at)) {
		return anything
	}
	return at[r]
}

// ending is t, or the jump that it always is.
func (a *analysis) ending(t api.RTerm, behind []entry) api.RTerm {
	if t.Kind != api.TBr {
		return t
	}
	e := look(behind, t.A)
	if !e.isValue() {
		return t
	}
	to := t.Else
	if val.Truth(a.book.cell(e).V) {
		to = t.To
	}
	return api.RTerm{Kind: api.TJump, To: to}
}
