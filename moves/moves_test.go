package moves_test

import (
	"math"
	"slices"
	"testing"

	"ratline/moves"
)

// Promise 19.1: May, Sequence, Do and Cost, told here by hand.

// of are moves: of each its To, its From.
func of(l ...int) []moves.Move {
	var all []moves.Move
	for k := 0; k < len(l); k += 2 {
		all = append(all, moves.Move{To: l[k], From: l[k+1]})
	}
	return all
}

// expectCost asks that l may be, and takes so many moves; more tells how many of them save something in scratch.
func expectCost(t *testing.T, l []moves.Move, cost, more int) {
	t.Helper()
	if !moves.May(l) {
		t.Error(l, "may not be")
	}
	if n := moves.Cost(l); n != cost {
		t.Errorf("Cost of %v: %d, want %d", l, n, cost)
	}
	saved := 0
	row := moves.Sequence(l, 99)
	for _, m := range row {
		if m.To == 99 {
			saved++
		}
	}
	if len(row) != cost || saved != more {
		t.Errorf("Sequence of %v: %v, want %d moves, %d of them to scratch", l, row, cost, more)
	}
	for _, scratch := range []int{99, -77, math.MinInt, math.MaxInt} {
		expectSequence(t, l, scratch)
	}
}

func TestExample(t *testing.T) {
	l := of(0, 1, 1, 0)
	row := moves.Sequence(l, 9)
	if len(row) != 3 {
		t.Error(row)
	}
	if at := moves.Do(row, []int{5, 6, 0, 0, 0, 0, 0, 0, 0, 0}); !slices.Equal(at[:9], []int{6, 5, 0, 0, 0, 0, 0, 0, 0}) {
		t.Error(row, at)
	}
	expectSequence(t, l, 9)
}

func TestMovesThatDoNotMeet(t *testing.T) {
	expectCost(t, nil, 0, 0)
	expectCost(t, of(), 0, 0)
	expectCost(t, of(0, 1), 1, 0)
	expectCost(t, of(1, 0), 1, 0)
	expectCost(t, of(0, 1, 2, 3), 2, 0)
	expectCost(t, of(0, 10, 1, 11, 2, 12, 3, 13), 4, 0)
	// far away, and below 0
	expectCost(t, of(-1, -2), 1, 0)
	expectCost(t, of(math.MinInt+1, math.MaxInt-1), 1, 0)
}

func TestMovesOfAPlaceToItself(t *testing.T) {
	expectCost(t, of(0, 0), 0, 0)
	expectCost(t, of(0, 0, 1, 1, -5, -5), 0, 0)
	expectCost(t, of(0, 0, 1, 0), 1, 0)
	expectCost(t, of(1, 0, 0, 0), 1, 0)
	expectCost(t, of(1, 0, 2, 0, 0, 0, 3, 1), 3, 0)
	expectCost(t, of(2, 2, 0, 1, 1, 0, 3, 3), 3, 1)
}

func TestRowsAndTrees(t *testing.T) {
	// rows, either way
	expectCost(t, of(0, 1, 1, 2, 2, 3), 3, 0)
	expectCost(t, of(2, 3, 1, 2, 0, 1), 3, 0)
	expectCost(t, of(1, 2, 0, 1, 2, 3), 3, 0)
	expectCost(t, of(0, 1, 1, 2, 5, 6, 6, 7), 4, 0)
	// trees of moves out of one place
	expectCost(t, of(0, 7, 1, 7), 2, 0)
	expectCost(t, of(0, 7, 1, 7, 2, 7, 3, 7), 4, 0)
	expectCost(t, of(0, 1, 2, 1, 1, 3, 4, 3, 5, 2), 5, 0)
	expectCost(t, of(1, 3, 0, 1, 4, 3, 2, 1, 5, 2), 5, 0)
}

func TestCircles(t *testing.T) {
	// of two, of three, of many
	expectCost(t, of(0, 1, 1, 0), 3, 1)
	expectCost(t, of(1, 0, 0, 1), 3, 1)
	expectCost(t, of(0, 1, 1, 2, 2, 0), 4, 1)
	expectCost(t, of(0, 2, 2, 1, 1, 0), 4, 1)
	expectCost(t, of(3, 1, 1, 4, 4, 5, 5, 9, 9, 2, 2, 6, 6, 3), 8, 1)
	expectCost(t, of(math.MinInt+1, math.MaxInt-1, math.MaxInt-1, math.MinInt+1), 3, 1)
	// several, one after the other and mingled
	expectCost(t, of(0, 1, 1, 0, 2, 3, 3, 2), 6, 2)
	expectCost(t, of(0, 1, 2, 3, 1, 0, 3, 2), 6, 2)
	expectCost(t, of(0, 1, 2, 3, 4, 5, 3, 4, 1, 0, 5, 2), 8, 2)
	expectCost(t, of(0, 1, 1, 0, 2, 3, 3, 2, 4, 5, 5, 4, 6, 7, 7, 8, 8, 6), 13, 4)
}

// What moves out of a circle's places stands beside it, and is no part of it; what moves into it there is none, since each of its places gets one thing.
func TestCirclesWithMovesOutOfThem(t *testing.T) {
	expectCost(t, of(0, 1, 1, 0, 2, 0), 4, 1)
	expectCost(t, of(2, 0, 0, 1, 1, 0), 4, 1)
	expectCost(t, of(0, 1, 1, 0, 2, 0, 3, 1), 5, 1)
	expectCost(t, of(0, 1, 1, 0, 2, 0, 3, 2, 4, 3), 6, 1)
	expectCost(t, of(4, 3, 3, 2, 2, 0, 1, 0, 0, 1), 6, 1)
	expectCost(t, of(0, 1, 1, 2, 2, 0, 5, 0, 6, 0, 7, 1, 8, 2, 9, 8), 9, 1)
	expectCost(t, of(0, 1, 1, 0, 2, 3, 3, 2, 4, 2, 5, 4), 8, 2)
	expectCost(t, of(0, 1, 1, 0, 4, 0, 2, 3, 3, 2, 5, 3, 6, 6, 7, 8), 9, 2)
}

func TestMayNot(t *testing.T) {
	for _, x := range []struct {
		l    []moves.Move
		cost int
	}{
		{of(1, 2, 1, 3), 2},
		{of(1, 2, 1, 2), 2},
		{of(1, 2, 5, 6, 1, 3), 3},
		{of(-1, 2, 0, 3, -1, 4), 3},
		{of(math.MaxInt, 0, math.MaxInt, 1), 2},
		// one is of a place to itself, or both are
		{of(1, 1, 1, 2), 1},
		{of(1, 2, 1, 1), 1},
		{of(1, 1, 1, 1), 0},
		// circles: one that stands apart, one of whose places another move is to, before or behind
		{of(1, 2, 1, 3, 5, 6, 6, 5), 5},
		{of(0, 1, 1, 0, 0, 2), 4},
		{of(0, 2, 0, 1, 1, 0), 4},
		{of(0, 1, 1, 0, 0, 0), 3},
		{of(0, 0, 0, 1, 1, 0), 3},
		// two that lead one to the other, but not back
		{of(0, 1, 1, 0, 1, 2, 2, 3, 3, 2), 7},
		// those that lead round to one another count as one: the same one twice, two that cross
		{of(0, 1, 1, 0, 0, 1), 4},
		{of(0, 1, 1, 0, 1, 2, 2, 1), 5},
		{of(0, 1, 1, 2, 2, 0, 0, 2), 5},
	} {
		if moves.May(x.l) {
			t.Error(x.l, "may be")
		}
		if n := moves.Cost(x.l); n != x.cost {
			t.Errorf("Cost of %v: %d, want %d", x.l, n, x.cost)
		}
		for _, scratch := range []int{99, -9, 0, 1} {
			if row := moves.Sequence(x.l, scratch); len(row) > 0 {
				t.Error(x.l, scratch, row)
			}
		}
	}
	for _, l := range [][]moves.Move{nil, of(1, 2), of(1, 1), of(1, 2, 3, 2), of(1, 2, 2, 1), of(1, 2, 2, 2), of(1, -1, -1, 1)} {
		if !moves.May(l) {
			t.Error(l, "may not be")
		}
	}
}

// Scratch is none of the moves' places.
func TestScratchOfTheMoves(t *testing.T) {
	for _, x := range []struct {
		l       []moves.Move
		scratch int
	}{
		{of(0, 1), 0}, {of(0, 1), 1}, {of(0, 0), 0}, {of(0, 1, 1, 0), 0}, {of(0, 1, 1, 0), 1}, {of(0, 1, 2, 3), 2}, {of(0, 1, 2, 3), 3}, {of(0, 1, 5, 5), 5}, {of(0, 1, 1, 0, 5, 5), 5}, {of(-1, 1), -1}, {of(1, -1), -1}, {of(math.MaxInt, 2), math.MaxInt}, {of(2, math.MinInt), math.MinInt},
	} {
		if row := moves.Sequence(x.l, x.scratch); len(row) > 0 {
			t.Error(x, row)
		}
		if !moves.May(x.l) || len(moves.Sequence(x.l, 77)) != moves.Cost(x.l) {
			t.Error(x)
		}
	}
	// any number that is none of them will do
	for _, scratch := range []int{math.MinInt, -2, 2, 3, math.MaxInt} {
		expectSequence(t, of(0, 1, 1, 0, -1, 0), scratch)
		expectSequence(t, nil, scratch)
	}
}

func TestDo(t *testing.T) {
	for _, x := range []struct {
		l        []moves.Move
		at, want []int
	}{
		{nil, nil, nil},
		{nil, []int{}, nil},
		{nil, []int{7, 8}, []int{7, 8}},
		{of(0, 0, 0, 1, -1, 0), nil, nil},
		{of(0, 1), []int{7, 8}, []int{8, 8}},
		{of(1, 0), []int{7, 8}, []int{7, 7}},
		{of(1, 1), []int{7, 8}, []int{7, 8}},
		// one after the other, not at once; moves that may not be too
		{of(0, 1, 1, 0), []int{7, 8}, []int{8, 8}},
		{of(0, 1, 1, 2, 2, 0), []int{7, 8, 9}, []int{8, 9, 8}},
		{of(2, 1, 1, 0, 0, 2), []int{7, 8, 9}, []int{8, 7, 8}},
		{of(0, 1, 0, 2, 1, 0), []int{7, 8, 9}, []int{9, 9, 9}},
		// a To or a From that is none of the places: below 0, just behind the last one, far beyond it
		{of(-1, 0, 0, -1), []int{7, 8}, []int{7, 8}},
		{of(2, 0, 0, 2), []int{7, 8}, []int{7, 8}},
		{of(2, 2, -1, -1, 2, -1), []int{7, 8}, []int{7, 8}},
		{of(math.MaxInt, 0, 0, math.MaxInt, math.MinInt, 1, 1, math.MinInt), []int{7, 8}, []int{7, 8}},
		{of(1<<32, 0, 0, 1<<32, 0, 1<<32+1, -1<<32, 1), []int{7, 8}, []int{7, 8}},
		{of(1, 0, 2, 1, 0, 2, -1, 0), []int{7, 8}, []int{7, 7}},
		// no place is kept between two moves that name none
		{of(5, 0, 1, 5), []int{7, 8}, []int{7, 8}},
		{of(0, 1), []int{math.MinInt, math.MaxInt}, []int{math.MaxInt, math.MaxInt}},
	} {
		if got := moves.Do(x.l, x.at); !slices.Equal(got, x.want) {
			t.Errorf("Do of %v, %v: %v, want %v", x.l, x.at, got, x.want)
		}
	}
}
