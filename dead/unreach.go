package dead

import (
	"ratline/api"
	"ratline/blocks"
	"ratline/graph"
	"ratline/sim"
)

// dropUnreached leaves the blocks that are come to, which move up.
func (c *code) dropUnreached() {
	var left []api.RBlock
	places := make([]int, len(c.Blocks))
	for n, isReached := range graph.Reach(sim.Graph(c.RFn)) {
		places[n] = len(left)
		if isReached {
			left = append(left, c.Blocks[n])
		}
	}
	blocks.Move(left, places)
	c.Blocks = left
}
