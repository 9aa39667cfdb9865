package color

import (
	"cmp"
	"slices"

	"ratline/api"
	"ratline/blocks"
)

// spans has of each register the positions at which it was seen first and last; an End of 0 tells that it was seen at none, since positions begin with 1.
type spans [api.MaxVirtual]Interval

// see takes registers at a position, which is none ahead of those that were seen. Numbers that no register of sound code has are left out, as live leaves them out.
func (s *spans) see(at int, l ...int) {
	for _, r := range l {
		if !blocks.Has(s[:], r) {
			continue
		}
		if s[r].End == 0 {
			s[r] = Interval{Reg: r, Start: at}
		}
		s[r].End = at
	}
}

// list has those that were seen, by Start, then by Reg. A parameter that was seen is there from the call on.
func (s *spans) list(params int) []Interval {
	var l []Interval
	for r, i := range s {
		if i.End == 0 {
			continue
		}
		if r < params {
			i.Start = 0
		}
		l = append(l, i)
	}
	slices.SortFunc(l, func(a, b Interval) int {
		return cmp.Or(cmp.Compare(a.Start, b.Start), cmp.Compare(a.Reg, b.Reg))
	})
	return l
}
