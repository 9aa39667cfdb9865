package thread

import (
	"slices"

	"ratline/api"
	"ratline/blocks"
)

// none stands where there is no block.
const none = -1

// What is known of a block ahead of its Final.
const (
	notAsked = none - 1 - iota
	passed   // on the way that is gone just now
)

// trails knows the Finals of blocks that only lead on. What is found stays, so that each of them is passed once, however many ends lead to it.
type trails struct {
	blocks []api.RBlock
	finals []int
}

func newTrails(l []api.RBlock) *trails {
	return &trails{blocks: l, finals: slices.Repeat([]int{notAsked}, len(l))}
}

// final goes from block n on, past blocks that only lead on, and tells where it comes to.
func (t *trails) final(n int) int {
	var way []int
onward:
	if t.isNew(n) {
		t.finals[n] = passed
		way = append(way, n)
		n = t.blocks[n].Term.To
		goto onward
	}
	last := t.last(n, way)
	for _, p := range way {
		t.finals[p] = last
	}
	return last
}

// isNew tells whether n is a block that only leads on, and was not passed before.
func (t *trails) isNew(n int) bool {
	return blocks.Has(t.blocks, n) && t.finals[n] == notAsked && leadsOn(t.blocks[n])
}

// leadsOn tells whether b does nothing but to lead on.
func leadsOn(b api.RBlock) bool {
	return len(b.Ins) == 0 && b.Term.Kind == api.TJump
}

// last is the Final of all blocks of a way that comes to n at last.
func (t *trails) last(n int, way []int) int {
	if !blocks.Has(t.blocks, n) {
		return none
	}
	switch t.finals[n] {
	case notAsked:
		return n
	case passed: // the way goes round from n on
		return slices.Min(way[slices.Index(way, n):])
	}
	return t.finals[n]
}

// turnEnds leads each end of l to its Final, and tells whether that changed any.
func turnEnds(l []api.RBlock) bool {
	t := newTrails(l)
	ends := make([]api.RTerm, len(l))
	for n, b := range l {
		ends[n] = t.turned(b.Term)
	}
	isTurned := false
	for n, end := range ends {
		isTurned = isTurned || end != l[n].Term
		l[n].Term = end
	}
	return isTurned
}

// turned is an end, led to its Final; a branch both ways of which come to the same place is a jump.
func (t *trails) turned(end api.RTerm) api.RTerm {
	end = blocks.Led(end, t.final)
	if end.Kind == api.TBr && end.To == end.Else {
		return api.RTerm{Kind: api.TJump, To: end.To}
	}
	return end
}
