package color

import (
	"cmp"
	"slices"
)

// row is a list of numbers that is kept in the order of which compare tells.
type row struct {
	l       []int
	compare func(a, b int) int
}

// firstOf are the numbers from 0 on, n of them, the least one first.
func firstOf(n int) row {
	r := row{l: make([]int, n), compare: cmp.Compare[int]}
	for k := range r.l {
		r.l[k] = k
	}
	return r
}

func (r *row) some() bool { return len(r.l) > 0 }

func (r *row) first() int { return r.l[0] }

func (r *row) add(x int) {
	at, _ := slices.BinarySearchFunc(r.l, x, r.compare)
	r.l = slices.Insert(r.l, at, x)
}

func (r *row) takeFirst() int {
	x := r.l[0]
	r.l = r.l[1:]
	return x
}

func (r *row) takeLast() int {
	last := len(r.l) - 1
	x := r.l[last]
	r.l = r.l[:last]
	return x
}
