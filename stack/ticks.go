package stack

import "ratline/api"

// isTicked tells whether nothing goes on for ever without an STick: each call has its own, and each cycle one. The code has to have heights.
func isTicked(code []api.SIns, heights []int) bool {
	for at, h := range heights {
		if h != none && !callIsTicked(code, at) {
			return false
		}
	}
	return !hasTicklessCycle(code, heights)
}

// callIsTicked tells whether the instruction at is no call that misses its STick, nor leads to a call past it.
func callIsTicked(code []api.SIns, at int) bool {
	switch i := code[at]; i.Op {
	case api.SCall:
		return at > 0 && code[at-1].Op == api.STick
	case api.SJump, api.SBrz:
		return code[i.A].Op != api.SCall
	}
	return true
}

// hasTicklessCycle looks at what is come to without its STicks, and takes away what no way leads to any more until there is no such: a cycle is what stays.
func hasTicklessCycle(code []api.SIns, heights []int) bool {
	left, into := 0, make([]int, len(code))
	counts := func(at int) bool { return heights[at] != none && code[at].Op != api.STick }
	for at := range code {
		if counts(at) {
			left++
			for _, to := range Next(code, at) {
				into[to]++
			}
		}
	}
	var free []int
	for at := range code {
		if counts(at) && into[at] == 0 {
			free = append(free, at)
		}
	}
	for ; len(free) > 0; left-- {
		at := free[len(free)-1]
		free = free[:len(free)-1]
		for _, to := range Next(code, at) {
			if into[to]--; into[to] == 0 && counts(to) {
				free = append(free, to)
			}
		}
	}
	return left > 0
}
