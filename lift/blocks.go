package lift

import (
	"slices"

	"ratline/api"
	"ratline/stack"
)

// leadersOf are the places of sound code with which blocks begin. A height below 0 is that of a place that is not come to.
func leadersOf(code []api.SIns, heights []int) []int {
	leads := make([]bool, len(code))
	leads[0] = true
	for at, i := range code {
		if heights[at] < 0 || i.Op != api.SJump && i.Op != api.SBrz {
			continue
		}
		for _, to := range stack.Next(code, at) {
			leads[to] = true
		}
	}
	var l []int
	for at, is := range leads {
		if is {
			l = append(l, at)
		}
	}
	return l
}

// blocksOf are the blocks of a sound function, one of each leader.
func blocksOf(f api.SFn, heights []int) []api.RBlock {
	leaders := leadersOf(f.Code, heights)
	rules := rulesOf(f.Consts, leaders)
	l := make([]api.RBlock, len(leaders))
	for n, at := range leaders {
		b := &l[n]
		for b.Term.Kind == 0 {
			s := spot{SIns: f.Code[at], top: f.Locals + heights[at], next: n + 1}
			rules[s.Op](b, s)
			at++
			if b.Term.Kind == 0 && isLeader(leaders, at) {
				b.Term = api.RTerm{Kind: api.TJump, To: s.next}
			}
		}
	}
	return l
}

func isLeader(leaders []int, at int) bool {
	_, is := slices.BinarySearch(leaders, at)
	return is
}

// blockAt is the number of the block that begins at a leader.
func blockAt(leaders []int, at int) int {
	n, _ := slices.BinarySearch(leaders, at)
	return n
}
