package color_test

import (
	"fmt"
	"math"
	"testing"

	"ratline/color"
)

// Promise 18.2: Assign and Slots, told here by hand.

// iv are intervals: of each its register, its Start, its End.
func iv(l ...int) []color.Interval {
	var all []color.Interval
	for k := 0; k < len(l); k += 3 {
		all = append(all, color.Interval{Reg: l[k], Start: l[k+1], End: l[k+2]})
	}
	return all
}

// expectPlaces asks for the places of intervals: of each a register of the machine, or s and its slot.
func expectPlaces(t *testing.T, l []color.Interval, n int, want string) {
	t.Helper()
	places := color.Assign(l, n)
	if len(places) != len(l) {
		t.Fatal(l, n, places)
	}
	s := ""
	for k, p := range places {
		if p.Reg != l[k].Reg {
			t.Error(l, n, places)
		}
		switch {
		case p.Slot == -1 && p.Phys >= 0:
			s += fmt.Sprint(" ", p.Phys)
		case p.Phys == -1 && p.Slot >= 0:
			s += fmt.Sprint(" s", p.Slot)
		default:
			t.Error(l, n, places)
		}
	}
	if s != want {
		t.Errorf("Assign of %v, %d:%s, want%s", l, n, s, want)
	}
	expectReadPlaces(t, l, n)
}

func TestExample(t *testing.T) {
	l := iv(0, 1, 9, 1, 2, 3)
	if s := fmt.Sprint(color.Assign(l, 1)); s != "[{0 -1 0} {1 0 -1}]" {
		t.Error(s)
	}
	if n := color.Slots(color.Assign(l, 1)); n != 1 {
		t.Error(n)
	}
}

func TestFewIntervals(t *testing.T) {
	for _, n := range []int{math.MinInt, -1, 0, 1, 2, 200, 1 << 40, math.MaxInt} {
		expectPlaces(t, nil, n, "")
		expectPlaces(t, iv(), n, "")
		expectPlaces(t, iv(5, 1, 9), n, " 0")
		expectPlaces(t, iv(5, 0, 0), n, " 0")
		expectPlaces(t, iv(-5, 3, -4), n, " 0")
	}
	// below 1 is 1
	for _, n := range []int{math.MinInt, -1, 0, 1} {
		expectPlaces(t, iv(0, 1, 9, 1, 2, 3, 2, 4, 5), n, " s0 0 0")
		expectPlaces(t, iv(0, 1, 3, 1, 2, 9, 2, 4, 5), n, " 0 s0 0")
	}
	// more than there are intervals
	for _, n := range []int{3, 4, 200, 1 << 40, math.MaxInt} {
		expectPlaces(t, iv(0, 1, 9, 1, 1, 9, 2, 1, 9), n, " 0 1 2")
		expectPlaces(t, iv(0, 1, 2, 1, 2, 3, 2, 3, 4), n, " 0 1 0")
	}
}

// A register is free again behind an End, not at it, and the least that is free is taken.
func TestFreeRegisters(t *testing.T) {
	// the End is just ahead of the next one's Start, is it, is just behind it
	expectPlaces(t, iv(0, 1, 3, 1, 4, 9), 2, " 0 0")
	expectPlaces(t, iv(0, 1, 4, 1, 4, 9), 2, " 0 1")
	expectPlaces(t, iv(0, 1, 5, 1, 4, 9), 2, " 0 1")
	expectPlaces(t, iv(0, 1, 3, 1, 4, 9), 1, " 0 0")
	expectPlaces(t, iv(0, 1, 4, 1, 4, 9), 1, " 0 s0")
	// rows
	expectPlaces(t, iv(9, 1, 1, 8, 2, 2, 7, 3, 3, 6, 4, 4), 1, " 0 0 0 0")
	expectPlaces(t, iv(9, 1, 2, 8, 2, 3, 7, 3, 4, 6, 4, 5), 2, " 0 1 0 1")
	expectPlaces(t, iv(9, 1, 2, 8, 2, 3, 7, 3, 4, 6, 4, 5), 1, " 0 s0 0 s1")
	// several are over at once; the least of their registers is taken first, in whatever order they ended
	expectPlaces(t, iv(0, 1, 5, 1, 1, 4, 2, 1, 3, 3, 6, 9, 4, 6, 9, 5, 6, 9), 3, " 0 1 2 0 1 2")
	expectPlaces(t, iv(0, 1, 3, 1, 1, 4, 2, 1, 5, 3, 5, 9, 4, 6, 9, 5, 6, 9), 3, " 0 1 2 0 1 2")
	// one in the middle is over, then one at the beginning
	expectPlaces(t, iv(0, 1, 6, 1, 1, 3, 2, 1, 9, 3, 4, 9, 4, 7, 9), 3, " 0 1 2 1 0")
	// a register that was never held is taken only if no lesser one is free
	expectPlaces(t, iv(0, 1, 1, 1, 2, 9, 2, 3, 9, 3, 4, 9), 9, " 0 0 1 2")
	// what has a slot frees nothing
	expectPlaces(t, iv(0, 1, 9, 1, 1, 9, 2, 1, 4, 3, 5, 9, 4, 5, 6), 2, " 0 s0 1 s1 1")
}

// Where none is free the one of the greatest End gets a slot, slots one after the other.
func TestSlotsInTurn(t *testing.T) {
	// the one that is just come to, one that holds a register
	expectPlaces(t, iv(0, 1, 7, 1, 1, 8, 2, 2, 9), 2, " 0 1 s0")
	expectPlaces(t, iv(0, 1, 7, 1, 1, 9, 2, 2, 8), 2, " 0 s0 1")
	expectPlaces(t, iv(0, 1, 9, 1, 1, 7, 2, 2, 8), 2, " s0 1 0")
	// each is shorter than the one ahead of it, and longer
	expectPlaces(t, iv(0, 1, 9, 1, 2, 8, 2, 3, 7, 3, 4, 6), 1, " s0 s1 s2 0")
	expectPlaces(t, iv(0, 1, 9, 1, 2, 8, 2, 3, 7, 3, 4, 6), 2, " s0 s1 0 1")
	expectPlaces(t, iv(0, 1, 6, 1, 2, 7, 2, 3, 8, 3, 4, 9), 1, " 0 s0 s1 s2")
	expectPlaces(t, iv(0, 1, 6, 1, 2, 7, 2, 3, 8, 3, 4, 9), 2, " 0 1 s0 s1")
	// slots are in the order in which they were given, not in that of the list
	expectPlaces(t, iv(0, 1, 8, 1, 2, 9, 2, 3, 7), 2, " 0 s0 1")
	expectPlaces(t, iv(0, 1, 8, 1, 2, 9, 2, 3, 7, 3, 4, 6), 2, " s1 s0 1 0")
	// a register that was got of another one is held, given on, and free again behind its new End
	expectPlaces(t, iv(0, 1, 9, 1, 2, 6, 2, 3, 4, 3, 5, 9), 1, " s0 s1 0 0")
	expectPlaces(t, iv(0, 1, 9, 1, 2, 3, 2, 4, 5, 3, 6, 9, 4, 7, 8), 1, " s0 0 0 s1 0")
	expectPlaces(t, iv(0, 1, 9, 1, 1, 20, 2, 3, 4, 3, 5, 6, 4, 6, 7), 2, " s1 s0 1 1 0")
	// a slot is new each time, also where an earlier one is needed no more
	expectPlaces(t, iv(0, 1, 2, 1, 1, 2, 2, 5, 6, 3, 5, 6, 4, 8, 9, 5, 8, 9), 1, " 0 s0 0 s1 0 s2")
}

// At ties of the greatest End it is the greatest Reg, wherever it stands in the list and whatever register it holds.
func TestTies(t *testing.T) {
	expectPlaces(t, iv(5, 1, 9, 6, 1, 9, 7, 1, 9), 2, " 0 1 s0")
	expectPlaces(t, iv(5, 1, 9, 7, 1, 9, 6, 1, 9), 2, " 0 s0 1")
	expectPlaces(t, iv(7, 1, 9, 5, 1, 9, 6, 1, 9), 2, " s0 1 0")
	expectPlaces(t, iv(7, 1, 9, 6, 1, 9, 5, 1, 9), 2, " s0 1 0")
	expectPlaces(t, iv(7, 1, 9, 6, 1, 9, 5, 1, 9, 4, 1, 9), 2, " s0 s1 0 1")
	expectPlaces(t, iv(7, 1, 9, 6, 1, 9, 5, 1, 9, 4, 1, 9), 1, " s0 s1 s2 0")
	expectPlaces(t, iv(-7, 1, 9, -6, 1, 9, math.MinInt, 1, 9, math.MaxInt, 1, 9), 2, " 0 s0 1 s1")
	// a greater Reg of a lesser End, and a greater Start, do not count
	expectPlaces(t, iv(99, 1, 8, 5, 1, 9, 98, 2, 8), 2, " 0 s0 1")
	expectPlaces(t, iv(5, 3, 9, 6, 1, 9, 4, 2, 9), 2, " 0 s0 1")
	// of one Reg several times: the one that came last
	expectPlaces(t, iv(5, 1, 9, 5, 1, 9, 5, 1, 9), 2, " 0 1 s0")
	expectPlaces(t, iv(5, 1, 9, 5, 1, 9, 4, 1, 9), 2, " 0 s0 1")
}

// Intervals as they come: in any order, and with an End below its Start. What is over stays over.
func TestAnyOrder(t *testing.T) {
	expectPlaces(t, iv(0, 5, 6, 1, 8, 9, 2, 1, 2), 1, " 0 s0 0")
	expectPlaces(t, iv(0, 5, 6, 1, 8, 9, 2, 1, 9), 1, " 0 0 s0")
	expectPlaces(t, iv(0, 1, 3, 1, 1, 3, 2, 5, 5, 3, 2, 2), 2, " 0 1 0 1")
	expectPlaces(t, iv(0, 9, 9, 1, 1, 1, 2, 9, 9, 3, 1, 1), 2, " 0 1 s0 1")
	// it is over when a Start is above its End, though that be below its own Start
	expectPlaces(t, iv(0, 9, 2, 1, 3, 4), 1, " 0 0")
	expectPlaces(t, iv(0, 9, 3, 1, 3, 4), 1, " 0 s0")
	expectPlaces(t, iv(0, 9, 4, 1, 3, 3), 1, " s0 0")
	expectPlaces(t, iv(0, 3, 4, 1, 5, -9, 2, 5, 6), 1, " 0 0 0")
	expectPlaces(t, iv(0, 3, 9, 1, 5, -9, 2, 5, 6), 1, " s0 0 0")
	expectPlaces(t, iv(0, math.MaxInt, math.MinInt, 1, math.MinInt, math.MaxInt, 2, math.MaxInt, math.MaxInt), 1, " 0 s0 0")
}

func TestSlots(t *testing.T) {
	place := func(slots ...int) []color.Place {
		var l []color.Place
		for n, s := range slots {
			l = append(l, color.Place{Reg: n, Phys: -1, Slot: s})
		}
		return l
	}
	for _, x := range []struct {
		l    []color.Place
		want int
	}{
		{nil, 0}, {[]color.Place{}, 0}, {place(-1), 0}, {place(-1, -1, -1), 0}, {place(0), 1}, {place(-1, 0, -1), 1}, {place(0, 1, 2), 3}, {place(2, 1, 0), 3}, {place(1, -1, 2, 0, -1), 3},
		// a Place that no Assign answers
		{[]color.Place{{}}, 1}, {[]color.Place{{Reg: 9, Phys: 9, Slot: -1}}, 0}, {place(4, -1), 5}, {place(2, 2), 3}, {place(-2, math.MinInt), 0}, {place(math.MaxInt-1, 0), math.MaxInt}, {place(math.MaxInt, 3, math.MaxInt), math.MaxInt},
	} {
		if n := color.Slots(x.l); n != x.want {
			t.Error(x, n)
		}
	}
}
