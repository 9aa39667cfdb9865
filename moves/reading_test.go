package moves_test

import (
	"math"
	"math/rand"
	"slices"
	"testing"

	"ratline/moves"
)

// A second, slow reading of chapter 19. Places are told by what they hold: each by the number of the place that had it first.

func readMay(l []moves.Move) bool {
	for k, m := range l {
		for _, other := range l[:k] {
			if m.To == other.To {
				return false
			}
		}
	}
	return true
}

// placesOf are the places of l, each once, the least one first.
func placesOf(l []moves.Move) []int {
	var all []int
	for _, m := range l {
		all = append(all, m.To, m.From)
	}
	slices.Sort(all)
	return slices.Compact(all)
}

// readCircles are the circles of two places and more of moves that may be, each by its least place: whoever goes on from it, from To to From, is at it again and never at a lesser one.
func readCircles(l []moves.Move) []int {
	var least []int
	for _, first := range placesOf(l) {
		at, steps, gone := first, 0, true
		for gone && (at != first || steps == 0) {
			gone = false
			for _, m := range l {
				if m.To == at && !gone {
					at, steps, gone = m.From, steps+1, true
				}
			}
			gone = gone && at >= first && steps <= len(l)
		}
		if gone && steps > 1 {
			least = append(least, first)
		}
	}
	return least
}

// readGroups counts the groups of two places and more that lead round to one another, whether l may be or not.
func readGroups(l []moves.Move) int {
	places := placesOf(l)
	leads := make([][]bool, len(places)) // from a to b
	for a := range places {
		leads[a] = make([]bool, len(places))
		for b := range places {
			leads[a][b] = slices.Contains(l, moves.Move{To: places[a], From: places[b]})
		}
	}
	for by := range places {
		for a := range places {
			for b := range places {
				leads[a][b] = leads[a][b] || leads[a][by] && leads[by][b]
			}
		}
	}
	count := 0
	for a := range places { // counted at its greatest place
		others, greater := false, false
		for b := range places {
			round := a != b && leads[a][b] && leads[b][a]
			others = others || round
			greater = greater || round && b > a
		}
		if others && !greater {
			count++
		}
	}
	return count
}

// readCost is how many moves are not of a place to itself, and one more for each circle.
func readCost(l []moves.Move) int {
	count := readGroups(l)
	for _, m := range l {
		if m.To != m.From {
			count++
		}
	}
	return count
}

// held is what places hold; those that are not in it hold what they had.
type held map[int]int

func (h held) at(place int) int {
	if what, is := h[place]; is {
		return what
	}
	return place
}

// inTurn is what places hold behind l, one move after the other.
func inTurn(l []moves.Move) held {
	h := held{}
	for _, m := range l {
		h[m.To] = h.at(m.From)
	}
	return h
}

// counts counts what was told of moves.
type counts struct{ rows, saved, none, mayNot int }

// expect asks for what 19.1 and 19.2 say of May, Cost and Sequence.
func (c *counts) expect(t *testing.T, l []moves.Move, scratch int) {
	t.Helper()
	if moves.May(l) != readMay(l) {
		t.Fatal("May of", l, moves.May(l))
	}
	cost := readCost(l)
	if n := moves.Cost(l); n != cost {
		t.Fatalf("Cost of %v: %d, want %d", l, n, cost)
	}
	row := moves.Sequence(l, scratch)
	if !readMay(l) || slices.Contains(placesOf(l), scratch) {
		if len(row) > 0 {
			t.Fatal("Sequence of", l, scratch, row)
		}
		if !readMay(l) {
			c.mayNot++
		}
		c.none++
		return
	}
	circles := len(readCircles(l))
	if circles != readGroups(l) {
		t.Fatal("the readings are not one", l)
	}
	if len(row) != cost {
		t.Fatalf("Sequence of %v: %v, want %d moves", l, row, cost)
	}
	want, got := held{}, inTurn(row)
	for _, m := range l {
		want[m.To] = m.From
	}
	for _, place := range append(placesOf(l), placesOf(row)...) {
		if place != scratch && got.at(place) != want.at(place) {
			t.Fatalf("Sequence of %v, %d: %v; behind it %d has what %d had", l, scratch, row, place, got.at(place))
		}
	}
	written := map[int]int{}
	for _, m := range row {
		written[m.To]++
	}
	if written[scratch] != circles {
		t.Fatalf("Sequence of %v, %d: %v writes scratch %d times", l, scratch, row, written[scratch])
	}
	c.rows++
	c.saved += circles
}

func expectSequence(t *testing.T, l []moves.Move, scratch int) {
	t.Helper()
	c := counts{}
	c.expect(t, l, scratch)
	if c.rows != 1 {
		t.Fatal(l, scratch, "are none")
	}
}

func readDo(l []moves.Move, at []int) []int {
	has := map[int]int{}
	for place, what := range at {
		has[place] = what
	}
	for _, m := range l {
		what, from := has[m.From]
		if _, to := has[m.To]; to && from {
			has[m.To] = what
		}
	}
	var all []int
	for place := range at {
		all = append(all, has[place])
	}
	return all
}

// All lists of up to four moves of three places, those that may not be among them, each scratch.
func TestAllFewMoves(t *testing.T) {
	var c counts
	var fill func(l []moves.Move, more int)
	fill = func(l []moves.Move, more int) {
		for scratch := -1; scratch <= 3; scratch++ {
			c.expect(t, l, scratch)
		}
		if more == 0 {
			return
		}
		for k := range 9 {
			fill(append(slices.Clone(l), moves.Move{To: k % 3, From: k / 3}), more-1)
		}
	}
	fill(nil, 4)
	if c.rows < 400 || c.saved < 100 || c.mayNot < 30000 {
		t.Error(c)
	}
}

// All moves of five places that may be: each gets nothing, or what one of them or a sixth one had. They stand in the order of their To, in the other one, and mingled.
func TestAllMovesOfFivePlaces(t *testing.T) {
	var c counts
	const places, choices = 5, 7
	for n := range choices * choices * choices * choices * choices {
		var l []moves.Move
		for place, left := 0, n; place < places; place, left = place+1, left/choices {
			if from := left%choices - 1; from >= 0 {
				l = append(l, moves.Move{To: place, From: from})
			}
		}
		c.expect(t, l, 6)
		slices.Reverse(l)
		c.expect(t, l, -1)
		slices.SortFunc(l, func(a, b moves.Move) int { return (5*a.To+n)%7 - (5*b.To+n)%7 })
		c.expect(t, l, math.MinInt)
	}
	if c.rows != 3*16807 || c.saved < 10000 {
		t.Error(c)
	}
}

// circlesByHand counts the ways round from place to place, none of them twice, with two places and more.
func circlesByHand(l []moves.Move) (count int, cross bool) {
	rounds := map[int]bool{} // each a set of places
	onOne := map[int]bool{}
	var walk func(first, at, been, steps int)
	walk = func(first, at, been, steps int) {
		for _, m := range l {
			switch {
			case m.To != at || m.From < first:
			case m.From == first && steps > 0:
				rounds[been] = true
			case been&(1<<m.From) == 0:
				walk(first, m.From, been|1<<m.From, steps+1)
			}
		}
	}
	for place := range 4 {
		walk(place, place, 1<<place, 0)
	}
	for round := range rounds {
		for place := range 4 {
			if round&(1<<place) != 0 {
				cross = cross || onOne[place]
				onOne[place] = true
			}
		}
	}
	return len(rounds), cross
}

// Whether moves may be or not, Cost counts each circle that no other one crosses.
func TestCostOfAllSetsOfMoves(t *testing.T) {
	circles, crossed := 0, 0
	for set := range 1 << 16 {
		var l []moves.Move
		many := 0
		for k := range 16 {
			if set&(1<<k) != 0 {
				l = append(l, moves.Move{To: k % 4, From: k / 4})
				if k%4 != k/4 {
					many++
				}
			}
		}
		count, cross := circlesByHand(l)
		if cross {
			crossed++
			continue
		}
		circles += count
		if n := moves.Cost(l); n != many+count {
			t.Fatalf("Cost of %v: %d, want %d", l, n, many+count)
		}
	}
	if circles < 10000 || crossed < 10000 {
		t.Error(circles, crossed)
	}
}

// All lists of up to three moves, made with no places, one, two and three.
func TestDoOfAllFewMoves(t *testing.T) {
	var fill func(l []moves.Move, more int)
	fill = func(l []moves.Move, more int) {
		for n := range 4 {
			at := []int{70, 80, 90}[:n]
			if got := moves.Do(l, at); !slices.Equal(got, readDo(l, at)) {
				t.Fatal(l, at, got)
			}
		}
		if more == 0 {
			return
		}
		for k := range 25 {
			fill(append(slices.Clone(l), moves.Move{To: k%5 - 1, From: k/5 - 1}), more-1)
		}
	}
	fill(nil, 3)
}

// drawn are likely moves: of up to so many places, which stand near one another or anywhere, most of them once as a To, circles among them.
func drawn(r *rand.Rand, most int) []moves.Move {
	names := r.Perm(2 * most)
	if r.Intn(3) == 0 {
		far := []int{math.MinInt, math.MinInt + 1, -1, math.MaxInt - 1, math.MaxInt}
		copy(names, far)
		r.Shuffle(len(names), func(a, b int) { names[a], names[b] = names[b], names[a] })
	}
	n := 1 + r.Intn(most)
	names = names[:n]
	froms := r.Perm(n) // circles alone
	loose := r.Intn(3)
	var l []moves.Move
	for k, to := range names {
		switch {
		case r.Intn(6) < loose:
			l = append(l, moves.Move{To: to, From: names[r.Intn(n)]})
		case r.Intn(12) >= loose:
			l = append(l, moves.Move{To: to, From: names[froms[k]]})
		}
	}
	if r.Intn(6) == 0 {
		l = append(l, moves.Move{To: names[r.Intn(n)], From: names[r.Intn(n)]})
	}
	r.Shuffle(len(l), func(a, b int) { l[a], l[b] = l[b], l[a] })
	return l
}

func TestDrawnMoves(t *testing.T) {
	r := rand.New(rand.NewSource(190))
	var c counts
	for range 20000 {
		l := drawn(r, 6+r.Intn(12))
		c.expect(t, l, -2)
		if len(l) > 0 && r.Intn(9) == 0 {
			c.expect(t, l, []int{l[0].To, l[0].From}[r.Intn(2)])
		}
	}
	if c.rows < 15000 || c.saved < 12000 || c.none < 3000 || c.mayNot < 2000 {
		t.Error(c)
	}
}

// Moves at once are what Do makes of their Sequence.
func TestDoOfDrawnMoves(t *testing.T) {
	r := rand.New(rand.NewSource(191))
	tried := 0
	for range 20000 {
		l := drawn(r, 12)
		at := make([]int, r.Intn(40))
		for k := range at {
			at[k] = 1000 + k
		}
		if got := moves.Do(l, at); !slices.Equal(got, readDo(l, at)) {
			t.Fatal(l, at, got)
		}
		all := placesOf(l)
		if !moves.May(l) || len(at) == 0 || len(all) > 0 && (all[0] < 0 || all[len(all)-1] >= len(at)-1) {
			continue
		}
		want := slices.Clone(at)
		for _, m := range l {
			want[m.To] = at[m.From]
		}
		scratch := len(at) - 1
		got := moves.Do(moves.Sequence(l, scratch), at)
		if !slices.Equal(got[:scratch], want[:scratch]) {
			t.Fatal(l, got, want)
		}
		tried++
	}
	if tried < 3000 {
		t.Error(tried)
	}
}

// movesOf takes bytes as moves, two for each.
func movesOf(b []byte) []moves.Move {
	var l []moves.Move
	for k := 0; k+1 < len(b); k += 2 {
		l = append(l, moves.Move{To: int(int8(b[k])), From: int(int8(b[k+1]))})
	}
	return l
}

// expectBytes asks for all that the chapter says of the moves that bytes are; the first byte is scratch, and how many places Do has.
func expectBytes(t *testing.T, c *counts, b []byte) {
	t.Helper()
	if len(b) == 0 {
		b = []byte{0}
	}
	l := movesOf(b[1:])
	c.expect(t, l, int(int8(b[0])))
	at := make([]int, b[0])
	for k := range at {
		at[k] = -k
	}
	if got := moves.Do(l, at); !slices.Equal(got, readDo(l, at)) {
		t.Fatal(l, at, got)
	}
}

func TestAnyBytes(t *testing.T) {
	r := rand.New(rand.NewSource(192))
	var c counts
	for range 12000 {
		wide := 1 + r.Intn(12)
		if r.Intn(4) == 0 {
			wide = 256
		}
		b := make([]byte, r.Intn(4*min(wide, 8)))
		for k := range b {
			b[k] = byte(r.Intn(wide) - wide/4)
		}
		if len(b) > 0 && r.Intn(2) == 0 { // scratch is none of them, and no To stands twice, as far as there are bytes for that
			b[0] = 222
			for k, to := range r.Perm(wide) {
				if 2*k+1 < len(b) {
					b[2*k+1] = byte(to - wide/4)
				}
			}
		}
		expectBytes(t, &c, b)
	}
	if c.rows < 3000 || c.saved < 200 || c.none < 3000 || c.mayNot < 1000 {
		t.Error(c)
	}
}

func FuzzMoves(f *testing.F) {
	f.Add([]byte{9, 0, 1, 1, 0})
	f.Add([]byte{2, 0, 1, 1, 0, 2, 0, 3, 3})
	f.Add([]byte{200, 0, 1, 1, 2, 2, 0, 3, 4, 4, 3, 5, 0, 6, 5, 128, 127})
	f.Fuzz(func(t *testing.T, b []byte) {
		expectBytes(t, &counts{}, b[:min(len(b), 61)])
	})
}
