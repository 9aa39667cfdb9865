package live

import "ratline/api"

// A register's number is that of its word, and behind it, in the lowest bits, that of its bit there.
const (
	shift = 6
	low   = 1<<shift - 1
	words = (api.MaxVirtual + low) >> shift
)

// set is a set of registers. A number that no register of sound code has is in none, so that a set is small whatever code names.
type set [words]uint64

func setOf(l ...int) set {
	var s set
	for _, r := range l {
		if r >= 0 && r < api.MaxVirtual {
			s[r>>shift] |= 1 << (r & low)
		}
	}
	return s
}

// with has what s or t has.
func (s set) with(t set) set {
	for k := range s {
		s[k] |= t[k]
	}
	return s
}

// without has what s has and t has not.
func (s set) without(t set) set {
	for k := range s {
		s[k] &^= t[k]
	}
	return s
}

// list has the registers of s, rising.
func (s set) list() []int {
	var l []int
	for k, word := range s {
		for r := k << shift; word != 0; r, word = r+1, word>>1 {
			if word&1 != 0 {
				l = append(l, r)
			}
		}
	}
	return l
}

func lists(l []set) [][]int {
	all := make([][]int, len(l))
	for n, s := range l {
		all[n] = s.list()
	}
	return all
}
