package color_test

import (
	"math"
	"math/rand"
	"reflect"
	"slices"
	"sync"
	"testing"

	"ratline/api"
	"ratline/color"
	"ratline/hand"
	"ratline/likely"
	"ratline/sim"
)

// Promise 18.4, W9, W10: every call ends and none panics, whatever it is given.

func TestRawFunctions(t *testing.T) {
	r := rand.New(rand.NewSource(190))
	var c counts
	for range 15000 {
		c.expectRead(t, likely.Raw(r.Intn))
	}
	if c.intervals < 20000 || c.params < 5000 || c.slots < 20000 {
		t.Error(c)
	}
}

// Wild numbers wherever there may be any.
func TestWildNumbers(t *testing.T) {
	far := []int{math.MinInt, math.MinInt + 1, -1, 0, 1, 200, math.MaxInt - 1, math.MaxInt}
	for _, a := range far {
		for _, b := range far {
			for _, c := range far {
				f := api.RFn{Params: a, Regs: b, Blocks: []api.RBlock{{Ins: []api.RIns{{Op: c, D: a, A: b, B: c, N: a, Deep: b, L: far}}, Term: api.RTerm{Kind: api.TBr, A: c, To: a, Else: b}}}}
				new(counts).expectRead(t, f)
				for _, n := range far {
					expectReadPlaces(t, iv(0, a, b, 1, b, c, 2, c, a, 3, a, c), n)
					expectReadPlaces(t, iv(a, b, c, c, b, a, b, c, a), n)
				}
			}
		}
	}
}

// isSound asks that a function that is made great is still one that may be.
func isSound(t *testing.T, f api.RFn) {
	t.Helper()
	if e := sim.Check(api.RProg{Fns: []api.RFn{f, fn(0, 1, block(ret(0)))}, Main: 1}); e != api.OK {
		t.Fatal(e)
	}
}

const most = api.MaxBlocks

// Of 2,000 blocks, in order and out of it, each reads what the one ahead of it on the way has written.
func TestLongRows(t *testing.T) {
	for _, step := range []int{1, most - 1, 7, 1001} {
		f := fn(0, 200, hand.Row(most, step, func(k, next int) api.RBlock {
			end := jump(next)
			if k == most-1 {
				end = ret(199)
			}
			return block(end, out((k+199)%200), tick(1), konst(k%200), tick(1), tick(1))
		})...)
		isSound(t, f)
		at := func(k int) int { return 1 + 6*(k*step%most) }
		var want []color.Interval
		for r := range 200 {
			i := color.Interval{Reg: r, Start: math.MaxInt}
			see := func(at int) { i.Start, i.End = min(i.Start, at), max(i.End, at) }
			if r == 199 { // the first block reads it, and nobody wrote it
				see(at(0))
			}
			for k := r; k < most; k += 200 {
				see(at(k) + 2)
				see(at(k) + 5)
				if k+1 < most {
					see(at(k + 1))
				}
			}
			want = append(want, i)
		}
		slices.SortFunc(want, func(a, b color.Interval) int { return 1000*(a.Start-b.Start) + a.Reg - b.Reg })
		got := color.Intervals(f)
		if !slices.Equal(got, want) {
			t.Fatal(step, short(got), short(want))
		}
		if l := color.Positions(f); len(l) != most || l[0] != 1 || l[1] != 7 || l[most-1] != 6*most-5 {
			t.Error(short(l))
		}
		for _, n := range []int{1, 7, 199, 200} {
			expectReadPlaces(t, got, n)
			expectApart(t, got, n)
		}
	}
}

// All registers are needed all along, through 2,000 blocks.
func TestAllRegistersAllAlong(t *testing.T) {
	all := hand.Upto(200)
	f := fn(8, 200, hand.Row(most, 1, func(k, next int) api.RBlock {
		switch k {
		case most - 1:
			return block(ret(0), list(0, all[:64]...), list(0, all[64:128]...), list(0, all[128:192]...), list(0, all[192:]...))
		case most - 2:
			return block(br(0, next, 0), tick(1))
		}
		return block(jump(next), tick(1), tick(1), tick(1))
	})...)
	isSound(t, f)
	last := 4*(most-2) + 3 // where the last block begins
	l := color.Intervals(f)
	if len(l) != 200 {
		t.Fatal(len(l))
	}
	for k, i := range l {
		want := color.Interval{Reg: k, Start: 1, End: last + k/64}
		if k < 8 {
			want.Start = 0
		}
		if k == 0 { // which the end reads
			want.End = last + 4
		}
		if i != want {
			t.Error(i, want)
		}
	}
	for n, slots := range map[int]int{1: 199, 8: 192, 199: 1, 200: 0, math.MaxInt: 0} {
		places := color.Assign(l, n)
		if color.Slots(places) != slots || !slices.Equal(places, readAssign(l, n)) {
			t.Error(n, short(places))
		}
	}
}

// A function of far more blocks than may be.
func TestTooManyBlocks(t *testing.T) {
	f := fn(1, 9, hand.Row(60000, 1, func(k, next int) api.RBlock {
		if k == 59999 {
			return block(ret(0))
		}
		return block(jump(next), out(1))
	})...)
	if l := color.Intervals(f); !slices.Equal(l, iv(0, 0, 119999, 1, 1, 119997)) {
		t.Error(l)
	}
}

// Many intervals: all at once, one within another, one behind another.
func TestManyIntervals(t *testing.T) {
	const count = 30000
	made := func(start, end func(k int) int) []color.Interval {
		l := make([]color.Interval, count)
		for k := range l {
			l[k] = color.Interval{Reg: k, Start: start(k), End: end(k)}
		}
		return l
	}
	one := func(int) int { return 1 }
	up := func(k int) int { return k + 1 }
	down := func(k int) int { return 2*count - k }
	for _, x := range []struct {
		what  string
		l     []color.Interval
		slots func(n int) int
	}{
		{"at once", made(one, one), func(n int) int { return count - n }},
		{"each shorter", made(one, down), func(n int) int { return count - n }},
		{"each longer", made(one, up), func(n int) int { return count - n }},
		{"one within another", made(up, down), func(n int) int { return count - n }},
		{"one behind another", made(up, up), func(int) int { return 0 }},
		{"two at a time", made(up, func(k int) int { return k + 2 }), func(n int) int { return (2 - min(n, 2)) * count / 2 }},
	} {
		for _, n := range []int{math.MinInt, 1, 2, 200, count - 1, count, math.MaxInt} {
			places := color.Assign(x.l, n)
			n = max(1, min(n, count))
			if got := color.Slots(places); got != x.slots(n) {
				t.Error(x.what, n, got, x.slots(n))
			}
			if n <= 200 && !slices.Equal(places, readAssign(x.l, n)) {
				t.Error(x.what, n, short(places))
			}
		}
	}
}

// What is handed in is not changed, nor kept; what is answered is new memory; the same call answers the same.

// expectOwn asks that what is answered is written into by nobody else, and told the same by several calls at once.
func expectOwn[T comparable](t *testing.T, call func() []T, odd T) {
	t.Helper()
	told := slices.Clone(call())
	first, second := call(), call()
	first = first[:cap(first)]
	for k := range first {
		first[k] = odd
	}
	if !slices.Equal(second, told) || !slices.Equal(call(), told) {
		t.Fatal("what was answered is shared, or kept", short(told))
	}
	var seen [4]bool
	var all sync.WaitGroup
	for n := range seen {
		all.Go(func() { seen[n] = slices.Equal(call(), told) })
	}
	all.Wait()
	if seen != [...]bool{true, true, true, true} {
		t.Fatal("told otherwise", short(told))
	}
}

func TestFunctionsAreNotTouched(t *testing.T) {
	r := rand.New(rand.NewSource(191))
	for n := range 600 {
		p := likely.Registers(r.Intn, 1+r.Intn(8))
		if n%3 == 0 {
			likely.Blemish(r.Intn, &p)
		}
		for _, f := range append(p.Fns, likely.Fn(likely.Stained(r.Intn, seeds()...))) {
			full, was := hand.Full(f), hand.Everything(hand.Full(f))
			positions, intervals := color.Positions(f), color.Intervals(f)
			expectOwn(t, func() []int { return color.Positions(full) }, -7)
			expectOwn(t, func() []color.Interval { return color.Intervals(full) }, color.Interval{Reg: -7, Start: -7, End: -7})
			if !reflect.DeepEqual(hand.Everything(full), was) {
				t.Fatal("changed", short(f))
			}
			if !slices.Equal(color.Positions(full), positions) || !slices.Equal(color.Intervals(full), intervals) {
				t.Fatal("told otherwise with room behind its lists", short(f))
			}
		}
	}
}

func TestIntervalsAreNotTouched(t *testing.T) {
	r := rand.New(rand.NewSource(192))
	spare := iv(77, 1, 9, 3, 2, 1)
	for range 3000 {
		l := make([]color.Interval, r.Intn(12))
		for k := range l {
			l[k] = color.Interval{Reg: r.Intn(9), Start: r.Intn(9), End: r.Intn(12)}
		}
		full := hand.WithRoom(l, spare...)
		was, n := slices.Clone(full[:cap(full)]), r.Intn(4)
		want := color.Assign(l, n)
		expectOwn(t, func() []color.Place { return color.Assign(full, n) }, color.Place{Reg: -7, Phys: -7, Slot: -7})
		if !slices.Equal(full[:cap(full)], was) {
			t.Fatal("changed", l)
		}
		places := hand.WithRoom(color.Assign(full, n), color.Place{Reg: 3, Phys: -1, Slot: 99})
		told := slices.Clone(places[:cap(places)])
		if color.Slots(places) != readSlots(want) || !slices.Equal(places, want) || !slices.Equal(places[:cap(places)], told) {
			t.Fatal(places, want)
		}
	}
}
