package graph

// climb tells of the points that are come to by their numbers, the places at which a walk met them: whatever stands on the walk's way to a point has a lesser number. A point's entry is the least number from which some way leads to it that has only greater numbers than its own between; its immediate dominator is the last that is not above the entry among the point it was come to from and that one's dominators.
type climb struct {
	number  []int // of each point; none of what is not come to
	up      []int // of each number one on the walk's way to it
	low     []int // of each number the least entry from it up to, and without, up
	entries []int // of each number
	way     []int // room for the numbers that lowest passes
}

// Doms tells of each point that is come to its immediate dominator. What it costs hangs on how many edges there are, hardly on how they lie.
func Doms(g [][]int) []int {
	w := walkOf(g)
	c := climbOf(w, Preds(g))
	idom := noneOf(g)
	for n := 1; n < len(w.met); n++ {
		at := w.by[w.met[n]]
	up:
		if c.number[at] > c.entries[n] {
			at = idom[at]
			goto up
		}
		idom[w.met[n]] = at
	}
	return idom
}

// climbOf finds the entries, from the last number on: each is made of those of greater numbers.
func climbOf(w *walk, preds [][]int) *climb {
	count := len(w.met)
	c := &climb{number: places(w.g, w.met), up: make([]int, count), low: make([]int, count), entries: make([]int, count)}
	for n := count - 1; n > 0; n-- {
		at := w.met[n]
		c.up[n] = c.number[w.by[at]]
		c.entries[n] = c.entry(n, preds[at])
		c.low[n] = c.entries[n]
	}
	return c
}

// entry is the entry of n, to which those points lead.
func (c *climb) entry(n int, from []int) int {
	least := n
	for _, p := range from {
		if m := c.number[p]; m != none {
			least = min(least, c.lowest(m, n))
		}
	}
	return least
}

// lowest is the least entry from m up to n and no further, or m itself if it is not above n. The way that was gone is made short for those who come after.
func (c *climb) lowest(m, n int) int {
	if m <= n {
		return m
	}
	c.way = c.way[:0]
	at := m
up:
	if c.up[at] > n {
		c.way = append(c.way, at)
		at = c.up[at]
		goto up
	}
	for i := len(c.way) - 1; i >= 0; i-- {
		at = c.way[i]
		c.low[at] = min(c.low[at], c.low[c.up[at]])
		c.up[at] = c.up[c.up[at]]
	}
	return c.low[m]
}
