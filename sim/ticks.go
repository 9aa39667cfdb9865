package sim

import (
	"ratline/api"
	"ratline/graph"
)

// isTicked tells whether nothing goes on for ever without an RTick: each call has its own, and each circle of blocks one.
func isTicked(f api.RFn) bool {
	ticks := make([]bool, len(f.Blocks))
	for n, b := range f.Blocks {
		if !callsAreTicked(b.Ins) {
			return false
		}
		ticks[n] = hasTick(b.Ins)
	}
	return !graph.Cyclic(Graph(f), ticks)
}

func callsAreTicked(l []api.RIns) bool {
	for at := range l {
		if l[at].Op == api.RCall && (at == 0 || l[at-1].Op != api.RTick) {
			return false
		}
	}
	return true
}

func hasTick(l []api.RIns) bool {
	for at := range l {
		if l[at].Op == api.RTick {
			return true
		}
	}
	return false
}
