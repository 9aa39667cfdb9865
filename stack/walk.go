package stack

import "ratline/api"

// walk goes from the first instruction wherever it leads. The first fault ends it.
type walk struct {
	code    []api.SIns
	heights []int
	open    []int // those that have been come to and not yet been gone on from
	fault   bool
}

// heightsOf is the height ahead of each instruction; false, if the stack or the code ends ahead of what is asked of it, or one instruction has two heights.
func heightsOf(code []api.SIns) ([]int, bool) {
	w := walk{code: code, heights: make([]int, len(code))}
	for at := range w.heights {
		w.heights[at] = none
	}
	w.come(0, 0)
next:
	if w.fault {
		goto fault
	}
	if len(w.open) > 0 {
		w.leave(w.take())
		goto next
	}
	return w.heights, true
fault:
	return nil, false
}

func (w *walk) take() int {
	last := len(w.open) - 1
	at := w.open[last]
	w.open = w.open[:last]
	return at
}

// come notes that to is come to with so many values on the stack.
func (w *walk) come(to, height int) {
	switch {
	case to >= len(w.code) || height > api.MaxStack:
		w.fault = true
	case w.heights[to] == none:
		w.heights[to] = height
		w.open = append(w.open, to)
	case w.heights[to] != height:
		w.fault = true
	}
}

// leave goes on from at, where it leads.
func (w *walk) leave(at int) {
	i := w.code[at]
	left := w.heights[at] - Pops(i)
	if left < 0 {
		w.fault = true
		return
	}
	for _, to := range Next(w.code, at) {
		w.come(to, left+Pushes(i))
	}
}
