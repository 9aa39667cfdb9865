package inline_test

import (
	"fmt"
	"math"
	"slices"
	"testing"

	"ratline/api"
	"ratline/hand"
	"ratline/inline"
	"ratline/sim"
	"ratline/val"
)

// Promise 17.1: the edges of Run, and of Stays with them.

// left is how many calls are left in f.
func left(f api.RFn) int {
	n := 0
	for _, b := range f.Blocks {
		for _, i := range b.Ins {
			if i.Op == api.RCall {
				n++
			}
		}
	}
	return n
}

// expectLeft asks how many calls are left in main, that each of them may stay, and that main is sound, if it was.
func expectLeft(t *testing.T, p api.RProg, size, deep, want int) api.RProg {
	t.Helper()
	q := inline.Run(p, size, deep)
	if n := left(q.Fns[p.Main]); n != want {
		t.Fatalf("with %d and %d %d calls are left, want %d\n%s\nof\n%s", size, deep, n, want, short(q), short(p))
	}
	expectStay(t, p, q, size, deep)
	if sim.Check(p) == api.OK {
		sound(t, q)
	}
	return q
}

// expectStay asks promise 17.2, W4: each call that is left may stay.
func expectStay(t *testing.T, p, q api.RProg, size, deep int) {
	t.Helper()
	for n, f := range q.Fns {
		for _, b := range f.Blocks {
			for _, i := range b.Ins {
				if i.Op == api.RCall && !inline.Stays(p, q, n, i, size, deep) {
					t.Fatalf("with %d and %d in function %d: %v\n%s\nof\n%s", size, deep, n, i, short(q), short(p))
				}
			}
		}
	}
}

// sized is a function of that Size, with so many registers.
func sized(size, regs int) api.RFn {
	f := fn(0, regs, block(ret(0)))
	if size > 1 {
		f.Blocks[0].Ins = slices.Repeat(hand.Code(out(0)), size-1)
	}
	return f
}

// calls is code that calls functions, one after the other.
func calls(l ...int) []api.RIns {
	var all []api.RIns
	for _, n := range l {
		all = append(all, tick(1), call(n, 0))
	}
	return all
}

func TestSize(t *testing.T) {
	for _, size := range []int{1, 2, 3, 12, 40} {
		p := prog(fn(0, 1, block(ret(0), calls(1)...)), sized(size, 1))
		sound(t, p)
		for d := -2; d <= 2; d++ {
			want := 0
			if size+d < size {
				want = 1
			}
			expectLeft(t, p, size+d, 3, want)
		}
		expectLeft(t, p, math.MaxInt, 3, 0)
		for _, none := range []int{0, -1, -5, math.MinInt} {
			expectLeft(t, p, none, 3, 1)
		}
	}
	// the registers of lists count, and so do blocks
	f := fn(0, 1, block(jump(1), list(0, 0, 0, 0)), block(jump(2)), block(ret(0), out(0)))
	p := prog(fn(0, 1, block(ret(0), calls(1)...)), f)
	expectLeft(t, p, sim.Size(f), 3, 0)
	expectLeft(t, p, sim.Size(f)-1, 3, 1)
}

func TestDeep(t *testing.T) {
	for at := range 12 {
		p := prog(fn(0, 1, block(ret(0), tick(1), deep(at, call(1, 0)))), sized(2, 1))
		sound(t, p)
		for _, d := range []int{math.MinInt, -3, -1, 0, 1, 2, 3, 6, 7, 8, 9, 10, 99, math.MaxInt} {
			want := 1
			if at < d && at < 8 {
				want = 0
			}
			q := expectLeft(t, p, 99, d, want)
			for _, b := range q.Fns[0].Blocks {
				for _, i := range b.Ins {
					if i.Deep != at+1 && i.Op != api.RTick && want == 0 {
						t.Error(i, at)
					}
				}
			}
		}
	}
}

// A row of functions, each of which calls the next one: as many are laid open as deep says, and no more than 8.
func TestRows(t *testing.T) {
	p := prog(make([]api.RFn, api.MaxFns)...)
	for n := range p.Fns {
		p.Fns[n] = fn(0, 2, block(ret(0), row(hand.Code(number(1, int64(n)), out(1)), calls(min(n+1, api.MaxFns-1)))...))
	}
	p.Fns[api.MaxFns-1].Blocks[0].Ins = hand.Code(number(0, 77))
	sound(t, p)
	var n hand.Tried
	for _, d := range []int{-1, 0, 1, 2, 3, 7, 8, 9, 20} {
		q := inline.Run(p, 99, d)
		sound(t, q)
		expectStay(t, p, q, 99, d)
		for at, f := range q.Fns {
			opened := min(max(d, 0), 8, api.MaxFns-1-at)
			stays := 1
			if at+opened == api.MaxFns-1 {
				stays = 0
			}
			if f.Regs != 2+2*opened || left(f) != stays || len(f.Blocks) != 1+2*opened {
				t.Error(d, at, f.Regs, left(f), len(f.Blocks))
			}
			for _, b := range f.Blocks {
				for _, i := range b.Ins {
					if i.Op == api.RCall && (i.Deep != opened || i.N != at+opened+1) {
						t.Error(d, at, i)
					}
				}
			}
		}
		if s := n.Otherwise(p, q); s != "" {
			t.Error(s)
		}
	}
}

// A Deep that is already given: the call's counts, and the body's own do not.
func TestDeepsThatAreGiven(t *testing.T) {
	leaf := fn(0, 1, block(ret(0), deep(6, number(0, 1))))
	mid := fn(0, 1, block(ret(0), deep(9, tick(1)), deep(9, call(2, 0)), deep(math.MaxInt, out(0))))
	main := fn(0, 1, block(ret(0), deep(3, tick(1)), deep(2, call(1, 0)), deep(5, out(0))))
	p := prog(main, mid, leaf)
	sound(t, p)
	q := inline.Run(p, 99, 4)
	expectMade(t, p, q, prog(fn(0, 3,
		block(jump(1), deep(3, tick(1)), deep(3, null(1))),
		block(jump(2), deep(3, tick(1)), deep(4, null(2))),
		block(jump(3), deep(4, number(2, 1)), deep(4, mov(1, 2))),
		block(jump(4), deep(3, out(1)), deep(3, mov(0, 1))),
		block(ret(0), deep(5, out(0))),
	), mid, leaf))
	expectLeft(t, p, 99, 3, 1)
	expectLeft(t, p, 99, 2, 1)
}

// Functions that come to themselves stay, by themselves and by others; those that only lead to such are laid open.
func TestCyclicStay(t *testing.T) {
	p := prog(
		fn(0, 1, block(ret(0), calls(1, 2, 3, 5, 6)...)),
		fn(0, 1, block(ret(0), calls(1)...)),
		fn(0, 1, block(ret(0), calls(3)...)),
		fn(0, 1, block(ret(0), calls(4)...)),
		fn(0, 1, block(ret(0), calls(3)...)),
		fn(0, 1, block(ret(0), calls(2)...)),
		fn(0, 1, block(ret(0), number(0, 1))),
	)
	sound(t, p)
	q := inline.Run(p, 99, 8)
	stay := ""
	for _, b := range q.Fns[0].Blocks {
		for _, i := range b.Ins {
			if i.Op == api.RCall {
				stay += fmt.Sprint(i.N, " ", i.Deep, ", ")
			}
		}
	}
	// 1 stays, 2 is laid open and calls 3, 3 stays, 5 is laid open and calls 2, 6 is laid open
	if stay != "1 0, 3 1, 3 0, 3 2, " || q.Fns[0].Regs != 5 {
		t.Error(stay, short(q))
	}
	for n, want := range []int{4, 1, 1, 1, 1, 1, 0} {
		if got := left(q.Fns[n]); got != want {
			t.Error(n, got)
		}
	}
	expectStay(t, p, q, 99, 8)
	// main that calls itself has others laid open in it
	p = prog(fn(0, 1, block(ret(0), calls(0, 1)...)), sized(3, 1))
	expectLeft(t, p, 99, 8, 1)
}

// Registers up to 200: a caller that would have just as many, and one more; the first calls are laid open.
func TestRegisters(t *testing.T) {
	mid := fn(0, 3, block(ret(0), calls(6)...))
	for _, x := range []struct {
		regs         int
		calls        []int
		left, behind int
	}{
		{198, []int{1}, 0, 200}, {199, []int{1}, 1, 199}, {200, []int{1}, 1, 200}, {199, []int{2}, 0, 200}, {1, []int{3}, 0, 200}, {2, []int{3}, 1, 2}, {1, []int{4}, 1, 1},
		{196, []int{1, 1}, 0, 200}, {197, []int{1, 1}, 1, 199}, {197, []int{1, 1, 2}, 1, 200}, {198, []int{1, 2, 2}, 2, 200}, {199, []int{1, 1, 2, 2, 1}, 4, 200},
		// 5 calls 6: what is laid open is looked at ahead of what is behind it
		{189, []int{5, 6}, 0, 200}, {190, []int{5, 6}, 1, 197}, {193, []int{5, 6}, 1, 200}, {194, []int{5, 6}, 2, 197}, {194, []int{5, 1}, 1, 199}, {194, []int{5, 1, 2}, 1, 200}, {185, []int{6, 5}, 0, 196}, {190, []int{6, 5}, 1, 197}, {195, []int{6, 5, 2, 2}, 2, 200},
	} {
		p := prog(fn(0, x.regs, block(ret(0), calls(x.calls...)...)), sized(2, 2), sized(2, 1), sized(2, 199), sized(2, 200), mid, sized(2, 4))
		sound(t, p)
		if q := expectLeft(t, p, 9, 8, x.left); q.Fns[0].Regs != x.behind {
			t.Error(x, q.Fns[0].Regs)
		}
	}
}

// chain has so many blocks.
func chain(blocks int) api.RFn {
	f := fn(0, 1, make([]api.RBlock, blocks)...)
	for n := range f.Blocks {
		f.Blocks[n].Term = jump(n + 1)
	}
	f.Blocks[blocks-1].Term = ret(0)
	return f
}

// Blocks up to 2,000: the caller's, the body's, and one more.
func TestBlocks(t *testing.T) {
	for _, x := range []struct {
		blocks, last int // how many there are, and in which the calls stand
		calls        []int
		left, behind int
	}{
		{1998, 0, []int{1}, 0, 2000}, {1999, 0, []int{1}, 1, 1999}, {2000, 1999, []int{1}, 1, 2000}, {1997, 1000, []int{2}, 0, 2000}, {1998, 1000, []int{2}, 1, 1998}, {1, 0, []int{3}, 0, 2000}, {2, 1, []int{3}, 1, 2},
		{1996, 1995, []int{1, 1}, 0, 2000}, {1997, 1996, []int{1, 1}, 1, 1999}, {1996, 3, []int{1, 2}, 1, 1998}, {1995, 3, []int{2, 2, 1}, 1, 2000},
	} {
		main := chain(x.blocks)
		main.Blocks[x.last].Ins = calls(x.calls...)
		p := prog(main, chain(1), chain(2), chain(1998))
		sound(t, p)
		if q := expectLeft(t, p, 5000, 8, x.left); len(q.Fns[0].Blocks) != x.behind {
			t.Error(x, len(q.Fns[0].Blocks))
		}
	}
}

// A Size up to 14,000: an Ins of each register of the body, one of each return, and one block more, but the call no more.
func TestSizes(t *testing.T) {
	const most = 14000
	two := fn(2, 3, block(br(0, 1, 2), list(2, 0, 1)), block(ret(1)), block(ret(2), out(2))) // Size 7, 3 registers, 2 returns; a call of it has Size 3
	for _, x := range []struct {
		size         int
		calls        []api.RIns
		left, behind int
	}{
		{most - 10, hand.Code(tick(1), call(1, 0, 1, 2)), 0, most}, {most - 9, hand.Code(tick(1), call(1, 0, 1, 2)), 1, most - 9}, {most, hand.Code(tick(1), call(1, 0, 1, 2)), 1, most},
		{most - 20, hand.Code(tick(1), call(1, 0, 1, 2), tick(1), call(1, 0, 0, 0)), 0, most}, {most - 19, hand.Code(tick(1), call(1, 0, 1, 2), tick(1), call(1, 0, 0, 0)), 1, most - 9},
		{most - 4, hand.Code(tick(1), call(2, 0)), 0, most}, {most - 3, hand.Code(tick(1), call(2, 0)), 1, most - 3}, {most - 13, hand.Code(tick(1), call(1, 0, 1, 2), tick(1), call(2, 0)), 1, most - 3}, {most - 9, hand.Code(tick(1), call(1, 0, 1, 2), tick(1), call(2, 0)), 1, most - 5},
		{40, hand.Code(tick(1), call(3, 0)), 0, most}, {41, hand.Code(tick(1), call(3, 0)), 1, 41},
	} {
		main := fn(0, 3, block(ret(0), x.calls...))
		main.Blocks[0].Ins = append(main.Blocks[0].Ins, slices.Repeat(hand.Code(out(2)), x.size-sim.Size(main))...)
		p := prog(main, two, sized(2, 1), sized(most-42, 1))
		sound(t, p)
		if q := expectLeft(t, p, most, 8, x.left); sim.Size(q.Fns[0]) != x.behind {
			t.Error(x.size, sim.Size(q.Fns[0]))
		}
	}
}

// Registers of a body are nil at first each time the call is come to, in a loop too, and its parameters what they are then.
func TestNilAtFirst(t *testing.T) {
	// f puts out what it has, and writes all of it
	f := fn(1, 3, block(ret(2), out(0), out(1), out(2), number(0, 77), number(1, 78), number(2, 79)))
	main := fn(0, 4, block(jump(1), number(0, 3), number(1, 1)), block(br(0, 1, 2), tick(1), call(1, 3, 0), out(3), tick(2), call(1, 3, 3), bin(api.OSub, 0, 0, 1)), block(ret(3)))
	p := prog(main, f)
	q := expectLeft(t, p, 99, 1, 0)
	x, e := sim.Run(q, 100)
	told := ""
	for _, v := range x.Events {
		if v.Kind == api.EOut {
			told += val.Show(v.V) + " "
		}
	}
	if want := "3 nil nil 79 79 nil nil 2 nil nil 79 79 nil nil 1 nil nil 79 79 nil nil "; e != api.OK || told != want || val.Show(x.V) != "79" {
		t.Errorf("%q, want %q", told, want)
	}
	if s := new(hand.Tried).Otherwise(p, q); s != "" {
		t.Error(s)
	}
}

// One function and 16 of them, and none.
func TestFewAndMany(t *testing.T) {
	for _, p := range []api.RProg{{}, {Fns: []api.RFn{}}, {Main: 5}, {Main: -1}} {
		if q := inline.Run(p, 9, 9); len(q.Fns) != 0 || q.Main != p.Main {
			t.Error(q)
		}
	}
	p := prog(fn(0, 1, block(ret(0), number(0, 1))))
	expectMade(t, p, inline.Run(p, 9, 9), p)
	p = prog(make([]api.RFn, api.MaxFns)...)
	var all []int
	for n := range p.Fns {
		p.Fns[n] = fn(0, 1, block(ret(0), row(hand.Code(number(0, int64(n)), out(0)), calls(all...))...))
		all = append(all, n)
	}
	p.Main = api.MaxFns - 1
	sound(t, p)
	// each of them calls all those ahead of it: far more than there is room for
	q := inline.Run(p, 999, 8)
	sound(t, q)
	expectStay(t, p, q, 999, 8)
	for n, f := range q.Fns {
		if want := min(1<<n, 200); f.Regs != want || (left(f) > 0) != (1<<n > 200) {
			t.Error(n, f.Regs, left(f))
		}
	}
	if s := new(hand.Tried).Otherwise(p, q); s != "" {
		t.Error(s)
	}
}
