package dead

import (
	"ratline/api"
	"ratline/graph"
	"ratline/sim"
)

// dropUnreached leaves the blocks that are come to, which move up.
func (c *code) dropUnreached() {
	var left []api.RBlock
	places := make([]int, len(c.Blocks))
	for n, isReached := range graph.Reach(sim.Graph(c.RFn)) {
		places[n] = len(left)
		if isReached {
			left = append(left, c.Blocks[n])
		}
	}
	for n := range left {
		left[n].Term = moved(left[n].Term, places)
	}
	c.Blocks = left
}

// moved is t, if each block is now at another place.
func moved(t api.RTerm, places []int) api.RTerm {
	switch t.Kind {
	case api.TBr:
		t.To, t.Else = placeOf(t.To, places), placeOf(t.Else, places)
	case api.TJump:
		t.To = placeOf(t.To, places)
	}
	return t
}

// placeOf is where block n is now. What was no block is none now either, since there are no more of them.
func placeOf(n int, places []int) int {
	if !isPlace(n, len(places)) {
		return n
	}
	return places[n]
}

func isPlace(n, length int) bool {
	return n >= 0 && n < length
}
