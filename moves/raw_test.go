package moves_test

import (
	"math"
	"math/rand"
	"slices"
	"sync"
	"testing"

	"ratline/hand"
	"ratline/moves"
)

// Promise 19.3, W9, W10: every call ends and none panics, whatever it is given.

func TestWildNumbers(t *testing.T) {
	far := []int{math.MinInt, math.MinInt + 1, -1, 0, 1, 1 << 40, math.MaxInt - 1, math.MaxInt}
	var c counts
	for _, a := range far {
		for _, b := range far {
			for _, d := range far {
				for _, scratch := range far {
					c.expect(t, of(a, b, b, d, d, a), scratch)
					c.expect(t, of(a, b, b, a, d, b), scratch)
				}
				l := of(a, b, b, d, d, a)
				for _, at := range [][]int{nil, {5}, {5, 6}, far} {
					if got := moves.Do(l, at); !slices.Equal(got, readDo(l, at)) {
						t.Fatal(l, at, got)
					}
				}
			}
		}
	}
	if c.rows < 3000 || c.saved < 3000 || c.none < 3000 {
		t.Error(c)
	}
}

// Many moves, in order and out of it.

const many = 40000

// made has a move for each number.
func made(move func(k int) moves.Move) []moves.Move {
	l := make([]moves.Move, many)
	for k := range l {
		l[k] = move(k)
	}
	return l
}

// expectGreat asks that many moves may be, take so many, and do what they should, in three orders.
func expectGreat(t *testing.T, what string, l []moves.Move, cost int) {
	t.Helper()
	r := rand.New(rand.NewSource(195))
	at := make([]int, many+2) // the last one is scratch
	for k := range at {
		at[k] = 3*k + 1
	}
	want := slices.Clone(at)
	for _, m := range l {
		want[m.To] = at[m.From]
	}
	for range 3 {
		row := moves.Sequence(l, many+1)
		got := moves.Do(row, at)
		if !moves.May(l) || moves.Cost(l) != cost || len(row) != cost || !slices.Equal(got[:many+1], want[:many+1]) {
			t.Error(what, moves.May(l), moves.Cost(l), len(row), cost)
		}
		if len(moves.Sequence(l, 0)) > 0 {
			t.Error(what)
		}
		if slices.Reverse(l); l[0].To == 0 { // it has been so once
			r.Shuffle(many, func(a, b int) { l[a], l[b] = l[b], l[a] })
		}
	}
}

func TestManyMoves(t *testing.T) {
	for _, x := range []struct {
		what string
		from func(k int) int // of place k
		cost int
	}{
		{"each to itself", func(k int) int { return k }, 0},
		{"a row", func(k int) int { return k + 1 }, many},
		{"a row the other way", func(k int) int { return max(0, k-1) }, many - 1},
		{"all of one", func(int) int { return 0 }, many - 1},
		{"all of one that is none of them", func(int) int { return many }, many},
		{"a tree", func(k int) int { return k / 2 }, many - 1},
		{"one circle", func(k int) int { return (k + 1) % many }, many + 1},
		{"one circle, mingled", func(k int) int { return (k + 7777) % many }, many + 1},
		{"circles of two", func(k int) int { return k ^ 1 }, many + many/2},
		{"circles of ten", func(k int) int { return k - k%10 + (k+7)%10 }, many + many/10},
		{"two circles", func(k int) int { return (k + 2) % many }, many + 2},
		{"one circle of a half, and moves out of it", func(k int) int { return (k + 1) % (many / 2) }, many + 1},
		{"a circle, and a long row out of it", func(k int) int {
			if k == 0 {
				return 9
			}
			return k - 1
		}, many + 1},
	} {
		l := made(func(k int) moves.Move { return moves.Move{To: k, From: x.from(k)} })
		expectGreat(t, x.what, l, x.cost)
	}
}

// Many moves that may not be, with more circles than could be gone through.
func TestManyMovesThatMayNotBe(t *testing.T) {
	const wide = 200
	for _, x := range []struct {
		what string
		move func(k int) moves.Move
		cost int
	}{
		{"one place, written by all", func(k int) moves.Move { return moves.Move{To: -1, From: k} }, many},
		{"one move", func(int) moves.Move { return moves.Move{To: 2, From: 1} }, many},
		{"one move of a place to itself", func(int) moves.Move { return moves.Move{To: 2, From: 2} }, 0},
		{"a circle of two, over and over", func(k int) moves.Move { return moves.Move{To: k % 2, From: 1 - k%2} }, many + 1},
		{"each of 200 to all that are not behind it, twice", func(k int) moves.Move {
			a, b := k%wide, k/wide%wide
			return moves.Move{To: max(a, b), From: min(a, b)}
		}, many - many/wide},
		{"each of 200 to each", func(k int) moves.Move { return moves.Move{To: k % wide, From: k / wide % wide} }, many - many/wide + 1},
		{"a row there and back", func(k int) moves.Move { return moves.Move{To: k/2 + k%2, From: k/2 + 1 - k%2} }, many + 1},
	} {
		l := made(x.move)
		if moves.May(l) || len(moves.Sequence(l, -9)) > 0 {
			t.Error(x.what)
		}
		for range 2 {
			if n := moves.Cost(l); n != x.cost {
				t.Error(x.what, n, x.cost)
			}
			slices.Reverse(l)
		}
	}
}

func TestManyPlaces(t *testing.T) {
	at := make([]int, many)
	for k := range at {
		at[k] = k
	}
	up := made(func(k int) moves.Move { return moves.Move{To: k, From: k - 1} })
	down := made(func(k int) moves.Move { return moves.Move{To: k, From: k + 1} })
	if got := moves.Do(up, at); got[0] != 0 || got[1] != 0 || got[many-1] != 0 {
		t.Error("up")
	}
	if got := moves.Do(down, at); got[0] != 1 || got[many-2] != many-1 || got[many-1] != many-1 {
		t.Error("down")
	}
	if got := moves.Do(up, at[:5]); !slices.Equal(got, []int{0, 0, 0, 0, 0}) {
		t.Error("up, of five places", got)
	}
}

// What is handed in is not changed, nor kept; what is answered is new memory; the same call answers the same.

// expectOwn asks that what is answered is written into by nobody else, and told the same by several calls at once.
func expectOwn[T comparable](t *testing.T, call func() []T, odd T) {
	t.Helper()
	told := slices.Clone(call())
	first, second := call(), call()
	first = first[:cap(first)]
	for k := range first {
		first[k] = odd
	}
	if !slices.Equal(second, told) || !slices.Equal(call(), told) {
		t.Fatal("what was answered is shared, or kept", told)
	}
	var seen [4]bool
	var all sync.WaitGroup
	for n := range seen {
		all.Go(func() { seen[n] = slices.Equal(call(), told) })
	}
	all.Wait()
	if seen != [...]bool{true, true, true, true} {
		t.Fatal("told otherwise", told)
	}
}

func TestNothingIsTouched(t *testing.T) {
	r := rand.New(rand.NewSource(196))
	spare := of(77, 1, 3, 3, 1, 77)
	for range 3000 {
		l := drawn(r, 9)
		at := make([]int, r.Intn(20))
		for k := range at {
			at[k] = r.Intn(100)
		}
		full, room := hand.WithRoom(l, spare...), hand.WithRoom(at, 5, 6, 7)
		wasMoves, wasPlaces := slices.Clone(full[:cap(full)]), slices.Clone(room[:cap(room)])
		row, got := moves.Sequence(l, -3), moves.Do(l, at)
		expectOwn(t, func() []moves.Move { return moves.Sequence(full, -3) }, moves.Move{To: -7, From: -7})
		expectOwn(t, func() []int { return moves.Do(full, room) }, -7)
		if moves.May(full) != moves.May(l) || moves.Cost(full) != moves.Cost(l) || !slices.Equal(moves.Sequence(full, -3), row) || !slices.Equal(moves.Do(full, room), got) {
			t.Fatal("told otherwise with room behind its lists", l, at)
		}
		if !slices.Equal(full[:cap(full)], wasMoves) || !slices.Equal(room[:cap(room)], wasPlaces) {
			t.Fatal("changed", l, at)
		}
	}
}

// An answer is a list of its own also where nothing is to be done.
func TestAnswersOfNothing(t *testing.T) {
	at := hand.WithRoom([]int{1, 2, 3}, 4, 5)
	for _, l := range [][]moves.Move{nil, of(0, 0), of(9, 9), of(-1, 0)} {
		got := moves.Do(l, at)
		got = append(got, 8, 9)
		got[0] = 7
		if at[0] != 1 || !slices.Equal(at[3:5], []int{4, 5}) {
			t.Error(l, at)
		}
	}
	l := hand.WithRoom(of(0, 1), moves.Move{To: 5, From: 6})
	row := append(moves.Sequence(l, 9), moves.Move{})
	row[0] = moves.Move{}
	if l[0] != (moves.Move{To: 0, From: 1}) || l[:2][1] != (moves.Move{To: 5, From: 6}) {
		t.Error(l[:2])
	}
}
