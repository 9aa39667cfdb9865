package inline

import (
	"slices"

	"ratline/api"
	"ratline/blocks"
)

// calledBy are the functions that function n of p calls, rising, each once.
func calledBy(p api.RProg, n int) []int {
	var l []int
	for _, b := range p.Fns[n].Blocks {
		for k := range b.Ins {
			if i := &b.Ins[k]; i.Op == api.RCall && blocks.Has(p.Fns, i.N) {
				l = append(l, i.N)
			}
		}
	}
	slices.Sort(l)
	return slices.Compact(l)
}

// comesBack tells whether function n of so many comes to itself. calls is asked only of those to which it comes, so that a program need not be gone through for the sake of one function.
func comesBack(n, count int, calls func(n int) []int) bool {
	met := make([]bool, count)
	for next := []int{n}; len(next) > 0; {
		last := len(next) - 1
		from := next[last]
		next = next[:last]
		for _, to := range calls(from) {
			if !met[to] {
				met[to] = true
				next = append(next, to)
			}
		}
	}
	return met[n]
}
