package graph

// walk goes through points depth first, of each its list in order. The way back is kept by the points themselves, so that it may be as long as there are points.
type walk struct {
	g    [][]int
	shut []bool // those that are not gone to, or not any more
	next []int  // of each point the place in its list that is looked at next
	by   []int  // of each point the one from which it was come to first
	met  []int  // the points in the order in which they were come to
	left []int  // the points in the order in which they were left
}

func newWalk(g [][]int) *walk {
	return &walk{g: g, shut: make([]bool, len(g)), next: make([]int, len(g)), by: noneOf(g)}
}

// walkOf is the walk through all points that are come to.
func walkOf(g [][]int) *walk {
	w := newWalk(g)
	if len(g) > 0 {
		w.from(0)
	}
	return w
}

// from goes from start wherever it leads, and back again.
func (w *walk) from(start int) {
	at, to := start, start
come:
	w.shut[to] = true
	w.met = append(w.met, to)
	at = to
look:
	if to = w.onward(at); to != none {
		w.by[to] = at
		goto come
	}
	w.left = append(w.left, at)
	if at = w.by[at]; at != none {
		goto look
	}
}

// onward is the point to which the walk goes next from at; none, if it leaves it.
func (w *walk) onward(at int) int {
	for l := w.g[at]; w.next[at] < len(l); {
		to := l[w.next[at]]
		w.next[at]++
		if isPoint(w.g, to) && !w.shut[to] {
			return to
		}
	}
	return none
}

// wentRound tells whether a point led to one that was not left ahead of it: that one was on the way to it.
func (w *walk) wentRound() bool {
	rank := places(w.g, w.left)
	for _, at := range w.left {
		for _, to := range w.g[at] {
			if isPoint(w.g, to) && rank[to] >= rank[at] {
				return true
			}
		}
	}
	return false
}
