package dead

import (
	"slices"

	"ratline/api"
	"ratline/graph"
	"ratline/live"
	"ratline/sim"
)

// sweep takes out what is needless, register by register, again and again. What is live only shrinks by that, so that nothing that is needless is ever needed again: what is left does not hang on the order. A register is asked for again only if something that read it is gone: a long row, in which each makes what the next one needs, is gone through one by one, and to have live tell of all registers each time would take too long.
func (c *code) sweep() {
	s := newSweeper(c.RFn)
	for r, more := s.again.take(); more; r, more = s.again.take() {
		s.sweepRegister(s.mentions[r])
	}
	for n := range c.Blocks {
		b := &c.Blocks[n]
		b.Ins = left(b.Ins, s.gone[n])
	}
}

// left is l without those that are gone. Nothing of them stays behind it.
func left(l []api.RIns, gone []bool) []api.RIns {
	var kept []api.RIns
	for k, i := range l {
		if !gone[k] {
			kept = append(kept, i)
		}
	}
	return kept
}

// mention is a place that reads or writes a register: an Ins of a block or, behind the last one, its end. What does both has two of them.
type mention struct {
	block, at int
	isWrite   bool
}

// sweeper knows what of a function is gone.
type sweeper struct {
	blocks   []api.RBlock
	from     [][]int // of each block those that lead to it
	gone     [][]bool
	mentions [api.MaxVirtual][]mention // of each register, in the order in which a block passes them
	again    again
}

func newSweeper(f api.RFn) *sweeper {
	s := &sweeper{blocks: f.Blocks, from: graph.Preds(sim.Graph(f)), gone: make([][]bool, len(f.Blocks))}
	for n, b := range f.Blocks {
		s.gone[n] = make([]bool, len(b.Ins))
		for k, i := range b.Ins {
			d := live.Def(i)
			if live.Pure(i) && !isRegister(d) { // as in live, a number that no register of sound code has is not live
				s.gone[n][k] = true
				continue
			}
			s.note(mention{block: n, at: k}, live.Uses(i)...)
			s.note(mention{block: n, at: k, isWrite: true}, d)
		}
		s.note(mention{block: n, at: len(b.Ins)}, live.Ends(b.Term)...)
	}
	return s
}

func isRegister(r int) bool {
	return r >= 0 && r < api.MaxVirtual
}

// note takes up that m is a mention of those registers.
func (s *sweeper) note(m mention, registers ...int) {
	for _, r := range registers {
		if isRegister(r) {
			s.mentions[r] = append(s.mentions[r], m)
			s.again.add(r)
		}
	}
}

// sweepRegister takes out what writes, needlessly, the register of which l are the mentions.
func (s *sweeper) sweepRegister(l []mention) {
	behind := s.neededBehind(l)
	block, isNeeded := len(s.blocks), false
	for _, m := range slices.Backward(l) {
		if m.block != block {
			block, isNeeded = m.block, behind[m.block]
		}
		switch {
		case s.isGone(m):
		case !m.isWrite:
			isNeeded = true
		case isNeeded || !live.Pure(s.blocks[m.block].Ins[m.at]):
			isNeeded = false
		default:
			s.drop(m)
		}
	}
}

// neededBehind tells of each block whether the register of which l are the mentions is live behind its end.
func (s *sweeper) neededBehind(l []mention) []bool {
	behind, ahead, isWritten := make([]bool, len(s.blocks)), make([]bool, len(s.blocks)), make([]bool, len(s.blocks))
	for _, m := range slices.Backward(l) {
		if !s.isGone(m) {
			ahead[m.block], isWritten[m.block] = !m.isWrite, m.isWrite // the first one decides
		}
	}
	var open []int
	for n, is := range ahead {
		if is {
			open = append(open, n)
		}
	}
	for len(open) > 0 {
		n := open[len(open)-1]
		open = open[:len(open)-1]
		for _, p := range s.from[n] {
			behind[p] = true
			if !ahead[p] && !isWritten[p] {
				ahead[p] = true
				open = append(open, p)
			}
		}
	}
	return behind
}

func (s *sweeper) isGone(m mention) bool {
	gone := s.gone[m.block]
	return m.at < len(gone) && gone[m.at]
}

// drop takes out the Ins at m, so that what it read may be needless.
func (s *sweeper) drop(m mention) {
	s.gone[m.block][m.at] = true
	for _, r := range live.Uses(s.blocks[m.block].Ins[m.at]) {
		if isRegister(r) {
			s.again.add(r)
		}
	}
}

// again has the registers that are to be asked for again, each of them once.
type again struct {
	list []int
	is   [api.MaxVirtual]bool
}

func (a *again) add(r int) {
	if !a.is[r] {
		a.is[r] = true
		a.list = append(a.list, r)
	}
}

// take takes a register off the list; false, if it is empty.
func (a *again) take() (int, bool) {
	last := len(a.list) - 1
	if last < 0 {
		return 0, false
	}
	r := a.list[last]
	a.list, a.is[r] = a.list[:last], false
	return r, true
}
