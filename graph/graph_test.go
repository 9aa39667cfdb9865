package graph_test

import (
	"fmt"
	"math"
	"slices"
	"testing"

	"ratline/graph"
)

// lists is a graph of so many lists.
func lists(l ...[]int) [][]int { return l }

func to(l ...int) []int { return l }

// expect holds all that is told of g against texts, and against the second reading.
func expect(t *testing.T, g [][]int, reach, preds, order, doms, loops string) {
	t.Helper()
	for _, c := range []struct {
		name string
		got  any
		want string
	}{
		{"Reach", graph.Reach(g), reach}, {"Preds", graph.Preds(g), preds}, {"Order", graph.Order(g), order}, {"Doms", graph.Doms(g), doms}, {"Loops", graph.Loops(g), loops},
	} {
		if got := fmt.Sprint(c.got); got != c.want {
			t.Errorf("%s(%v) is %s, want %s", c.name, g, got, c.want)
		}
	}
	expectRead(t, g)
}

// Promises 10.1 and 10.2, ordinary graphs.

func TestLines(t *testing.T) {
	expect(t, lists(to(1), to(2), to()), "[true true true]", "[[] [0] [1]]", "[0 1 2]", "[-1 0 1]", "[]")
	expect(t, lists(to(2), to(), to(1)), "[true true true]", "[[] [2] [0]]", "[0 2 1]", "[-1 2 0]", "[]")
	expect(t, lists(to(), to(2), to(0)), "[true false false]", "[[2] [] [1]]", "[0]", "[-1 -1 -1]", "[]")
}

func TestDiamonds(t *testing.T) {
	all := "[true true true true]"
	expect(t, lists(to(1, 2), to(3), to(3), to()), all, "[[] [0] [0] [1 2]]", "[0 2 1 3]", "[-1 0 0 0]", "[]")
	expect(t, lists(to(2, 1), to(3), to(3), to()), all, "[[] [0] [0] [1 2]]", "[0 1 2 3]", "[-1 0 0 0]", "[]")
	// the example of the chapter: a diamond that leads back
	expect(t, lists(to(1, 2), to(3), to(3), to(0)), all, "[[3] [0] [0] [1 2]]", "[0 2 1 3]", "[-1 0 0 0]", "[{0 [0 1 2 3] -1}]")
	// two diamonds behind each other, and one within another
	expect(t, lists(to(1, 2), to(3), to(3), to(4, 5), to(6), to(6), to()), "[true true true true true true true]", "[[] [0] [0] [1 2] [3] [3] [4 5]]", "[0 2 1 3 5 4 6]", "[-1 0 0 0 3 3 3]", "[]")
	expect(t, lists(to(1, 5), to(2, 3), to(4), to(4), to(5), to()), "[true true true true true true]", "[[] [0] [1] [1] [2 3] [0 4]]", "[0 1 3 2 4 5]", "[-1 0 1 1 1 0]", "[]")
}

// Of each point its list in order: what is led to twice is come to by the first way.
func TestOrderIsOfLists(t *testing.T) {
	for _, c := range []struct {
		g    [][]int
		want []int
	}{
		{lists(to(1, 2, 3), to(), to(), to()), to(0, 3, 2, 1)},
		{lists(to(3, 2, 1), to(), to(), to()), to(0, 1, 2, 3)},
		{lists(to(1, 3), to(2), to(3), to()), to(0, 1, 2, 3)},
		{lists(to(3, 1), to(2), to(3), to()), to(0, 1, 2, 3)},
		{lists(to(3, 1), to(2), to(3), to(4), to()), to(0, 1, 2, 3, 4)},
		{lists(to(1, 2), to(3), to(3, 4), to(1), to()), to(0, 2, 4, 1, 3)},
		{lists(to(2, 1), to(3), to(4, 3), to(1), to()), to(0, 2, 3, 1, 4)},
	} {
		if got := graph.Order(c.g); !slices.Equal(got, c.want) {
			t.Error(c.g, got, c.want)
		}
	}
}

// Where it is not the walk's way that decides.
func TestDoms(t *testing.T) {
	for _, c := range []struct {
		g    [][]int
		want []int
	}{
		// a far way past a whole line
		{lists(to(1, 4), to(2), to(3), to(4), to(5), to()), to(-1, 0, 1, 2, 0, 4)},
		// two that lead to each other, each come to from outside
		{lists(to(1, 2), to(2), to(1)), to(-1, 0, 0)},
		{lists(to(1), to(2, 3), to(3), to(2, 4), to()), to(-1, 0, 1, 1, 3)},
		// crossing ways, of which the entries are not the dominators
		{lists(to(1, 2), to(3), to(3, 4), to(5), to(5), to()), to(-1, 0, 0, 0, 2, 0)},
		{lists(to(1, 5), to(2), to(3, 4), to(4), to(5), to(3)), to(-1, 0, 1, 0, 0, 0)},
		{lists(to(1, 2, 3), to(4), to(1, 4, 5), to(6, 7), to(12), to(8), to(9), to(9, 10), to(5, 11), to(11), to(9), to(0, 9), to(8)), to(-1, 0, 0, 0, 0, 0, 3, 3, 0, 0, 7, 0, 4)},
		// ways back change nothing
		{lists(to(1), to(0, 2), to(0, 1, 3), to(0, 1, 2, 3)), to(-1, 0, 1, 2)},
	} {
		if got := graph.Doms(c.g); !slices.Equal(got, c.want) {
			t.Error(c.g, got, c.want)
		}
		expectRead(t, c.g)
	}
}

func TestDominates(t *testing.T) {
	idom := to(-1, 0, 1, 1, 3, -1)
	above := lists(to(0), to(0, 1), to(0, 1, 2), to(0, 1, 3), to(0, 1, 3, 4), to(5))
	for b, l := range above {
		for a := range idom {
			if graph.Dominates(idom, a, b) != slices.Contains(l, a) {
				t.Error(a, b)
			}
		}
	}
}

func TestLoops(t *testing.T) {
	for _, c := range []struct {
		name string
		g    [][]int
		want string
	}{
		{"none", lists(to(1, 2), to(2), to()), "[]"},
		{"a point", lists(to(1), to(1, 2), to()), "[{1 [1] -1}]"},
		{"the first point", lists(to(0, 1), to()), "[{0 [0] -1}]"},
		{"two points", lists(to(1), to(2), to(1, 3), to()), "[{1 [1 2] -1}]"},
		{"behind each other", lists(to(1), to(1, 2), to(2, 3), to(3)), "[{1 [1] -1} {2 [2] -1} {3 [3] -1}]"},
		{"within one another", lists(to(1), to(2), to(3), to(3, 4), to(2, 5), to(1, 6), to()), "[{1 [1 2 3 4 5] -1} {2 [2 3 4] 0} {3 [3] 1}]"},
		{"the inner one has the lesser Head", lists(to(3), to(1, 2), to(3, 4), to(1), to()), "[{1 [1] 1} {3 [1 2 3] -1}]"},
		{"two within one", lists(to(1), to(2, 3), to(2, 4), to(3, 4), to(1)), "[{1 [1 2 3 4] -1} {2 [2] 0} {3 [3] 0}]"},
		{"two with one Head", lists(to(1), to(2, 3), to(1), to(1, 4), to()), "[{1 [1 2 3] -1}]"},
		{"two with one Head, one a part of the other", lists(to(1), to(2), to(1, 3), to(1, 4), to()), "[{1 [1 2 3] -1}]"},
		{"a Head that leads to itself, and a longer way round", lists(to(1), to(1, 2), to(1)), "[{1 [1 2] -1}]"},
		{"one end of two", lists(to(1), to(2), to(3), to(1, 2)), "[{1 [1 2 3] -1} {2 [2 3] 0}]"},
		{"shared points", lists(to(1), to(2), to(3, 4), to(2, 5), to(5), to(1, 6), to()), "[{1 [1 2 3 4 5] -1} {2 [2 3] 0}]"},
		{"a way round that crosses another", lists(to(1), to(2), to(3), to(1, 4), to(2)), "[{1 [1 2 3 4] -1} {2 [2 3 4] 0}]"},
		{"a circle of two entries", lists(to(1, 2), to(2), to(1)), "[]"},
		{"a circle of two entries within a Loop", lists(to(1), to(2, 3), to(3), to(2, 4), to(1)), "[{1 [1 2 3 4] -1}]"},
		{"a Loop within a circle of two entries", lists(to(1, 2), to(2, 1), to(1)), "[{1 [1] -1}]"},
		{"two ways back to a Head through a circle", lists(to(1), to(2, 3), to(3, 1), to(2, 1)), "[{1 [1 2 3] -1}]"},
		{"what leads out is no part", lists(to(1), to(2, 4), to(3, 5), to(1), to(5), to()), "[{1 [1 2 3] -1}]"},
	} {
		if got := fmt.Sprint(graph.Loops(c.g)); got != c.want {
			t.Errorf("%s: %s, want %s", c.name, got, c.want)
		}
		expectRead(t, c.g)
	}
}

// Of Loops of the same number of points only those around a Loop count, the first if there are several; and the fewest points decide, not what stands nearest in the list.
func TestInside(t *testing.T) {
	for _, c := range []struct {
		g    [][]int
		want string
	}{
		{lists(to(1), to(2, 5), to(3), to(3, 4), to(1), to(6), to(6, 7), to(5)), "[{1 [1 2 3 4] -1} {3 [3] 0} {5 [5 6 7] -1} {6 [6] 2}]"},
		{lists(to(1, 3), to(2), to(2, 1), to(4), to(4, 3)), "[{1 [1 2] -1} {2 [2] 0} {3 [3 4] -1} {4 [4] 2}]"},
		{lists(to(5), to(1, 4), to(2, 3), to(3, 4), to(5), to(1, 2)), "[{1 [1] 3} {2 [2] 3} {3 [3] 3} {5 [1 2 3 4 5] -1}]"},
		{lists(to(4), to(1, 2), to(3), to(4), to(2, 5), to(6), to(1, 7), to(5, 4)), "[{1 [1] 1} {4 [1 2 3 4 5 6 7] -1} {5 [5 6 7] 1}]"},
	} {
		if got := fmt.Sprint(graph.Loops(c.g)); got != c.want {
			t.Errorf("%v: %s, want %s", c.g, got, c.want)
		}
		expectRead(t, c.g)
	}
}

func TestCyclic(t *testing.T) {
	in := func(l ...int) []bool {
		pass := make([]bool, 6)
		for _, at := range l {
			pass[at] = true
		}
		return pass
	}
	two := lists(to(1), to(2, 3), to(1), to(4), to(3, 5), to())
	circle := lists(to(1, 2), to(2), to(1))
	for i, c := range []struct {
		g    [][]int
		pass []bool
		want bool
	}{
		{two, nil, true}, {two, in(1), true}, {two, in(2), true}, {two, in(3), true}, {two, in(0, 5), true},
		{two, in(1, 3), false}, {two, in(2, 4), false}, {two, in(1, 2), true}, {two, in(3, 4), true}, {two, in(2, 3), false},
		{circle, nil, true}, {circle, in(0), true}, {circle, in(1), false}, {circle, in(2), false},
		{lists(to(1, 2), to(3), to(3), to()), nil, false},
		{lists(to(1, 2), to(3), to(3), to(0)), in(1), true}, {lists(to(1, 2), to(3), to(3), to(0)), in(1, 2), false}, {lists(to(1, 2), to(3), to(3), to(0)), in(3), false},
		// what is come to only through pass is come to
		{lists(to(1), to(2), to(2)), in(0, 1), true}, {lists(to(1), to(2), to(3), to(2)), in(1), true},
		// edges that lead ahead and across go round nowhere
		{lists(to(1, 2, 3), to(2, 3), to(3), to()), nil, false}, {lists(to(3, 2, 1), to(2, 3), to(3), to()), nil, false},
	} {
		if graph.Cyclic(c.g, c.pass) != c.want {
			t.Error(i, c.g, c.pass)
		}
	}
}

// The edges that the chapter names.

func TestFewPoints(t *testing.T) {
	for _, g := range [][][]int{nil, {}, make([][]int, 0, 5)} {
		expect(t, g, "[]", "[]", "[]", "[]", "[]")
		if graph.Cyclic(g, nil) || graph.Cyclic(g, []bool{true}) || graph.Cyclic(g, []bool{false}) {
			t.Error("a cycle of no points")
		}
	}
	expect(t, lists(nil), "[true]", "[[]]", "[0]", "[-1]", "[]")
	expect(t, lists(to()), "[true]", "[[]]", "[0]", "[-1]", "[]")
	expect(t, lists(to(0)), "[true]", "[[0]]", "[0]", "[-1]", "[{0 [0] -1}]")
	expect(t, lists(to(0, 0)), "[true]", "[[0]]", "[0]", "[-1]", "[{0 [0] -1}]")
}

func TestNotComeTo(t *testing.T) {
	// what is not come to leads to others of its kind, to itself, and to points of a Loop and ahead of it
	expect(t, lists(to(), to(2), to(1)), "[true false false]", "[[] [2] [1]]", "[0]", "[-1 -1 -1]", "[]")
	expect(t, lists(to(), to(1)), "[true false]", "[[] [1]]", "[0]", "[-1 -1]", "[]")
	expect(t, lists(to(1), to(2), to(), to(2, 1), to(3)), "[true true true false false]", "[[] [0 3] [1 3] [4] []]", "[0 1 2]", "[-1 0 1 -1 -1]", "[]")
	expect(t, lists(to(1), to(2, 3), to(1), to(), to(2), to(1, 4)), "[true true true true false false]", "[[] [0 2 5] [1 4] [1] [5] []]", "[0 1 3 2]", "[-1 0 1 1 -1 -1]", "[{1 [1 2] -1}]")
	expect(t, lists(to(2), to(2, 1), to(2, 3), to()), "[true false true true]", "[[] [1] [0 1 2] [2]]", "[0 2 3]", "[-1 -1 0 2]", "[{2 [2] -1}]")
	// a point that leads to the first one and is not come to
	expect(t, lists(to(1), to(), to(0)), "[true true false]", "[[2] [0] []]", "[0 1]", "[-1 0 -1]", "[]")
	for _, g := range [][][]int{lists(to(), to(1)), lists(to(), to(2), to(1)), lists(to(1), to(), to(0, 2)), lists(to(2), to(1, 2), to())} {
		if graph.Cyclic(g, nil) || graph.Cyclic(g, make([]bool, 9)) {
			t.Error(g, "goes round")
		}
	}
}

func TestNoPoints(t *testing.T) {
	far := to(-1, 3, 4, -3, 4096, 1<<32, 1<<32+1, -1<<32+1, math.MinInt, math.MinInt+1, math.MaxInt)
	with := func(l ...int) []int {
		return slices.Concat(far, l, far)
	}
	expect(t, lists(with(), with(), with()), "[true false false]", "[[] [] []]", "[0]", "[-1 -1 -1]", "[]")
	expect(t, lists(with(1, -1, 2), with(2), with(1)), "[true true true]", "[[] [0 2] [0 1]]", "[0 1 2]", "[-1 0 0]", "[]")
	expect(t, lists(with(1), with(2), with(1, 9, 2)), "[true true true]", "[[] [0 2] [1 2]]", "[0 1 2]", "[-1 0 1]", "[{1 [1 2] -1} {2 [2] 0}]")
	if graph.Cyclic(lists(with(1), with(2), with()), nil) || !graph.Cyclic(lists(with(1), with(2), with(1)), nil) {
		t.Error("Cyclic")
	}
}

func TestDoubles(t *testing.T) {
	expect(t, lists(to(1, 1, 2, 1, 2), to(2, 2), to()), "[true true true]", "[[] [0] [0 1]]", "[0 1 2]", "[-1 0 0]", "[]")
	expect(t, lists(to(2, 1, 2), to(), to()), "[true true true]", "[[] [0] [0]]", "[0 1 2]", "[-1 0 0]", "[]")
	expect(t, lists(to(1, 1), to(0, 1, 0, 1)), "[true true]", "[[1] [0 1]]", "[0 1]", "[-1 0]", "[{0 [0 1] -1} {1 [1] 0}]")
	if graph.Cyclic(lists(to(1, 1), to()), nil) {
		t.Error("a double goes round")
	}
}

func TestDominatesOfAnyList(t *testing.T) {
	for _, c := range []struct {
		idom []int
		a, b int
		want bool
	}{
		// no points at all, places that are none
		{nil, 0, 0, false}, {nil, -1, -1, false}, {to(-1), 0, 0, true}, {to(-1), -1, 0, false}, {to(-1), 0, -1, false}, {to(-1), -1, -1, false}, {to(-1), 1, 1, false}, {to(-1), 1, 0, false},
		{to(-1, 0), math.MaxInt, 1, false}, {to(-1, 0), math.MinInt, 1, false}, {to(-1, 0), 0, math.MaxInt, false}, {to(-1, 0), 0, math.MinInt, false}, {to(-1, 0), math.MinInt, math.MinInt, false},
		// out of the list
		{to(7, 0), 0, 1, true}, {to(7, 0), 1, 0, false}, {to(2, 0), 2, 1, false}, {to(math.MaxInt, 0), 1, 0, false}, {to(math.MinInt, 0), 1, 0, false}, {to(math.MinInt, 0), math.MinInt, 0, false}, {to(7, 0), 7, 1, false},
		// circles: of one, two, three, and ways up that lead to them
		{to(0), 0, 0, true}, {to(0, 1), 0, 1, false}, {to(0, 1), 1, 0, false}, {to(0, 0), 0, 1, true}, {to(0, 0), 1, 0, false},
		{to(1, 0), 0, 1, true}, {to(1, 0), 1, 0, true}, {to(1, 0, -1), 2, 0, false}, {to(1, 2, 0), 0, 1, true}, {to(1, 2, 0), 2, 0, true}, {to(1, 2, 0, 0), 1, 3, true}, {to(1, 2, 0, 0), 2, 3, true}, {to(1, 2, 0, 0), 3, 2, false},
		{to(1, 2, 1), 0, 1, false}, {to(1, 2, 1), 2, 0, true}, {to(1, 2, 3, 3), 3, 0, true}, {to(1, 2, 3, 3), 2, 3, false},
	} {
		if graph.Dominates(c.idom, c.a, c.b) != c.want {
			t.Error(c.idom, c.a, c.b)
		}
	}
}

func TestPassOfAnyLength(t *testing.T) {
	g := lists(to(1), to(2), to(1))
	for i, c := range []struct {
		pass []bool
		want bool
	}{
		{nil, true}, {[]bool{}, true}, {[]bool{true}, true}, {[]bool{true, false}, true}, {[]bool{false, true}, false}, {[]bool{true, true}, false},
		{[]bool{false, false, true}, false}, {[]bool{true, false, false}, true}, {[]bool{false, false, false, true, true}, true}, {[]bool{false, true, false, false}, false},
		{make([]bool, 5000), true}, {slices.Repeat([]bool{true}, 5000), false},
		// room behind a pass is no part of it
		{[]bool{false, true, true}[:1], true}, {[]bool{false, true, true}[:2], false},
	} {
		if graph.Cyclic(g, c.pass) != c.want {
			t.Error(i)
		}
	}
}
