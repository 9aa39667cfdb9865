package graph_test

import (
	"math/rand"
	"reflect"
	"slices"
	"sync"
	"testing"

	"ratline/graph"
)

// Promise 10.4: every call ends and none panics, with lists of up to 4,096 points.

const most = 4096

// graphBy is a graph of n points in which each has the list that it is given.
func graphBy(n int, list func(at int) []int) [][]int {
	g := make([][]int, n)
	for at := range g {
		g[at] = list(at)
	}
	return g
}

// span is from, and on up to to.
func span(from, to int) []int { return allOfList(from, to) }

// shape is what is told of a great graph: its Order, its Doms, how many Loops it has, and the first and last of these.
type shape struct {
	order, doms []int
	loops       int
	first, last graph.Loop
	cyclic      bool
}

func expectShape(t *testing.T, name string, g [][]int, s shape) {
	t.Helper()
	if got := graph.Order(g); !slices.Equal(got, s.order) {
		t.Error(name, "Order", got[:min(9, len(got))])
	}
	if got := graph.Doms(g); !slices.Equal(got, s.doms) {
		t.Error(name, "Doms", got[:9])
	}
	l := graph.Loops(g)
	if len(l) != s.loops {
		t.Fatal(name, "Loops", len(l))
	}
	if len(l) > 0 && (!sameLoop(l[0], s.first) || !sameLoop(l[len(l)-1], s.last)) {
		t.Error(name, "Loops", l[0].Head, len(l[0].Body), l[0].Inside, l[len(l)-1].Head, len(l[len(l)-1].Body), l[len(l)-1].Inside)
	}
	if graph.Cyclic(g, nil) != s.cyclic || graph.Cyclic(g, slices.Repeat([]bool{true}, len(g))) {
		t.Error(name, "Cyclic")
	}
	reach := graph.Reach(g)
	for at := range g {
		if reach[at] != slices.Contains(s.order, at) {
			t.Fatal(name, "Reach", at)
		}
	}
}

func TestGreatGraphs(t *testing.T) {
	last := most - 1
	all, line := span(0, last), span(-1, last-1)
	star := append(to(-1), make([]int, last)...)
	expectShape(t, "alone", make([][]int, most), shape{order: to(0), doms: slices.Repeat(to(-1), most)})
	expectShape(t, "a line", graphBy(most, func(at int) []int { return to(at + 1) }), shape{order: all, doms: line})
	whole := graph.Loop{Head: 0, Body: all, Inside: -1}
	expectShape(t, "a circle", graphBy(most, func(at int) []int { return to((at + 1) % most) }), shape{order: all, doms: line, loops: 1, first: whole, last: whole, cyclic: true})
	expectShape(t, "a circle that begins behind", graphBy(most, func(at int) []int {
		return to((at + last) % most)
	}), shape{order: append(to(0), falling(last, 1)...), doms: slices.Concat(to(-1), span(2, last), to(0)), loops: 1, first: whole, last: whole, cyclic: true})
	expectShape(t, "each to itself", graphBy(most, func(at int) []int { return to(at, at+1) }), shape{order: all, doms: line, loops: most, first: graph.Loop{Head: 0, Body: to(0), Inside: -1}, last: graph.Loop{Head: last, Body: to(last), Inside: -1}, cyclic: true})
	expectShape(t, "each to each", graphBy(most, func(at int) []int { return all }), shape{order: all, doms: star, loops: most, first: whole, last: graph.Loop{Head: last, Body: to(last), Inside: 0}, cyclic: true})
	expectShape(t, "each to all behind it", graphBy(most, func(at int) []int { return all[at+1:] }), shape{order: all, doms: star})
	expectShape(t, "each to all ahead of it and the next", graphBy(most, func(at int) []int { return all[:min(at+2, most)] }), shape{order: all, doms: line, loops: most, first: whole, last: graph.Loop{Head: last, Body: to(last), Inside: last - 1}, cyclic: true})
	expectShape(t, "rounds within one another", graphBy(most, func(at int) []int {
		if at < most/2 {
			return to(at + 1)
		}
		return to(at+1, last-at)
	}), shape{order: all, doms: line, loops: most / 2, first: whole, last: graph.Loop{Head: most/2 - 1, Body: to(most/2-1, most/2), Inside: most/2 - 2}, cyclic: true})
}

func falling(from, to int) []int {
	l := span(to, from)
	slices.Reverse(l)
	return l
}

// Ladders whose sides lead to each other: circles of many entries, and no Loop.
func TestGreatLadder(t *testing.T) {
	g := graphBy(most, func(at int) []int {
		if at == 0 {
			return to(1, 2)
		}
		return to(at+2, at+1, at-1)
	})
	doms := graph.Doms(g)
	if doms[0] != -1 || slices.ContainsFunc(doms[1:], func(above int) bool { return above != 0 }) {
		t.Error("Doms")
	}
	if l := graph.Loops(g); len(l) != 1 || l[0].Head != 0 || len(l[0].Body) != most {
		t.Error("Loops")
	}
	g[1] = to(3, 2)
	if l := graph.Loops(g); len(l) != 0 || !graph.Cyclic(g, nil) {
		t.Error("Loops")
	}
}

// reachWithout is what is come to without one point, found breadth first.
func reachWithout(g [][]int, point int) []bool {
	come := make([]bool, len(g))
	if len(g) == 0 || point == 0 {
		return come
	}
	come[0] = true
	for open := to(0); len(open) > 0; open = open[1:] {
		for _, p := range g[open[0]] {
			if p >= 0 && p < len(g) && p != point && !come[p] {
				come[p] = true
				open = append(open, p)
			}
		}
	}
	return come
}

// bodyOf is the Body of h's Loop, if there is one, found backwards.
func bodyOf(preds [][]int, reach, without []bool, h int) []int {
	in := make([]bool, len(preds))
	in[h] = true
	var open []int
	found := false
	for _, p := range preds[h] {
		if reach[p] && !without[p] {
			found = true
			open = append(open, p)
		}
	}
	for ; len(open) > 0; open = open[1:] {
		if at := open[0]; !in[at] && reach[at] {
			in[at] = true
			open = append(open, preds[at]...)
		}
	}
	var body []int
	for at := range in {
		if found && in[at] {
			body = append(body, at)
		}
	}
	return body
}

// expectPoint holds what h dominates, and its Loop, against what is come to without it.
func expectPoint(t *testing.T, g [][]int, h int) {
	t.Helper()
	reach, without, above := graph.Reach(g), reachWithout(g, h), graph.Doms(g)
	for b := range g {
		if reach[b] && graph.Dominates(above, h, b) == without[b] {
			t.Fatal("Dominates", h, b)
		}
	}
	var body []int
	for _, l := range graph.Loops(g) {
		if l.Head == h {
			body = l.Body
		}
	}
	if reach[h] && !slices.Equal(body, bodyOf(graph.Preds(g), reach, without, h)) {
		t.Fatal("Loops", h, len(body))
	}
}

// Great graphs of any kind, some points of each.
func TestSomeGreatGraphs(t *testing.T) {
	r := rand.New(rand.NewSource(106))
	var graphs [][][]int
	for _, edges := range []float64{1.2, 1.5, 2, 3, 10, 100} {
		g := someGraph(r, most, edges)
		g[0] = append(g[0], r.Perm(most)[:20]...)
		graphs = append(graphs, g)
	}
	for range 6 {
		m := &maker{r: r}
		at := m.point()
		for len(m.g) < most-600 {
			at = m.lay(at, 5)
		}
		g := m.g
		for range 2 * r.Intn(200) {
			from := r.Intn(len(g))
			g[from] = append(g[from], r.Intn(len(g)))
		}
		graphs = append(graphs, g, mixed(r, g))
	}
	for _, g := range graphs {
		order := graph.Order(g)
		for range 12 {
			expectPoint(t, g, order[r.Intn(len(order))])
		}
		for _, l := range graph.Loops(g)[:min(4, len(graph.Loops(g)))] {
			expectPoint(t, g, l.Head)
		}
		for _, rare := range []int{1, 2, 3, 10, 100, len(g) + 1} {
			pass := make([]bool, len(g))
			for at := range pass {
				pass[at] = r.Intn(rare) == 0
			}
			if graph.Cyclic(g, pass) != goesRound(g, pass) {
				t.Error("Cyclic", rare)
			}
		}
	}
}

// goesRound takes away, again and again, what leads to nothing that is left: a cycle stays.
func goesRound(g [][]int, pass []bool) bool {
	left := graph.Reach(g)
	for at := range pass {
		left[at] = left[at] && !pass[at]
	}
	for again := true; again; {
		again = false
		for at := range g {
			if left[at] && !slices.ContainsFunc(g[at], func(p int) bool { return p >= 0 && p < len(g) && left[p] }) {
				left[at], again = false, true
			}
		}
	}
	return slices.Contains(left, true)
}

// A list may be far longer than there are points, and there may be more points than the promise asks for.
func TestLongLists(t *testing.T) {
	expect(t, lists(slices.Repeat(to(1, -1, 2, 7), 1<<20), slices.Repeat(to(1), 1<<20), nil), "[true true true]", "[[] [0 1] [0]]", "[0 2 1]", "[-1 0 0]", "[{1 [1] -1}]")
	n := 1 << 18
	g := graphBy(n, func(at int) []int { return to(at+1, at/2*2) })
	if doms := graph.Doms(g); !slices.Equal(doms, span(-1, n-2)) {
		t.Error("Doms")
	}
	if l := graph.Loops(g); len(l) != n/2 || !slices.Equal(l[n/2-1].Body, to(n-2, n-1)) {
		t.Error("Loops", len(l))
	}
	if !graph.Cyclic(g, nil) || !graph.Dominates(span(-1, n-2), 0, n-1) || graph.Dominates(span(1, n), n-1, -1) {
		t.Error("Cyclic, Dominates")
	}
	if up := append(span(1, n-1), 0); !graph.Dominates(up, 0, 1) || graph.Dominates(append(up, -1), n, 0) {
		t.Error("a great circle")
	}
}

// Rules 3 and 8: what is handed in is not changed, nor kept; what is answered is new memory; the same call answers the same.

// spared is l with room behind it, which holds something.
func spared[T any](l []T, more ...T) []T {
	return slices.Concat(l, more)[:len(l)]
}

// full is a graph, a pass and a list of dominators, with spare room behind all lists.
func full() ([][]int, []bool, []int) {
	g := lists(to(1), to(2, 5, 2, -1), to(3, 99), to(3, 2, 1, 4), to(1), to(), to(2, 6), nil)
	for at := range g {
		g[at] = spared(g[at], 7, 0, at)
	}
	return spared(g, to(0), to(1)), spared([]bool{true, false, true}, true, true), spared(to(-1, 0, 1, 2, 3, 1, -1, 9), 0, 0)
}

func callAll(g [][]int, pass []bool, idom []int) []any {
	told := []any{graph.Reach(g), graph.Preds(g), graph.Order(g), graph.Doms(g), graph.Loops(g), graph.Cyclic(g, pass), graph.Cyclic(g, nil)}
	for a := -1; a < 10; a++ {
		for b := -1; b < 10; b++ {
			told = append(told, graph.Dominates(idom, a, b))
		}
	}
	return told
}

// everything is all that was handed in, spare room too.
func everything(g [][]int, pass []bool, idom []int) []any {
	l := []any{g, pass, idom, pass[:cap(pass)], idom[:cap(idom)], g[:cap(g)]}
	for _, x := range g[:cap(g)] {
		l = append(l, x[:cap(x)])
	}
	return l
}

func TestNothingIsChanged(t *testing.T) {
	g, pass, idom := full()
	before := everything(full())
	told := callAll(g, pass, idom)
	if !reflect.DeepEqual(everything(g, pass, idom), before) {
		t.Error("what was handed in is changed")
	}
	if !reflect.DeepEqual(told, callAll(g, pass, idom)) {
		t.Error("two calls tell otherwise")
	}
	for _, l := range g {
		for i := range l {
			l[i] = 0
		}
	}
	pass[0], idom[1] = false, 7
	if other := callAll(full()); !reflect.DeepEqual(told, other) {
		t.Error("what was handed in is kept")
	}
	r := rand.New(rand.NewSource(107))
	for range 2000 {
		seed := r.Int63()
		made := func() ([][]int, []bool, []int) {
			r := rand.New(rand.NewSource(seed))
			g := likelyGraph(r, 60)
			return g, somePass(r, len(g)), r.Perm(len(g))
		}
		g, pass, idom := made()
		callAll(g, pass, idom)
		if !reflect.DeepEqual(everything(g, pass, idom), everything(made())) {
			t.Fatal("what was handed in is changed")
		}
	}
}

// cells counts how often each place of lists stands there, spare room too.
func cells[T any](to map[*T]int, all ...[]T) {
	for _, l := range all {
		l = l[:cap(l)]
		for i := range l {
			to[&l[i]]++
		}
	}
}

// twice tells whether a place stands in two lists.
func twice[T any](to map[*T]int) bool {
	for _, n := range to {
		if n > 1 {
			return true
		}
	}
	return false
}

func TestAnswersAreNewMemory(t *testing.T) {
	g, pass, _ := full()
	numbers, bools, heads, from := map[*int]int{}, map[*bool]int{}, map[*graph.Loop]int{}, map[*[]int]int{}
	cells(numbers, g...)
	cells(bools, pass)
	cells(from, g)
	for range 2 {
		cells(bools, graph.Reach(g))
		preds, loops := graph.Preds(g), graph.Loops(g)
		cells(from, preds)
		cells(numbers, preds...)
		cells(numbers, graph.Order(g), graph.Doms(g))
		cells(heads, loops)
		for _, l := range loops {
			cells(numbers, l.Body)
		}
	}
	if twice(numbers) || twice(bools) || twice(heads) || twice(from) {
		t.Error("two lists share memory")
	}
}

// The same call answers the same, whoever else calls.
func TestCallsAtOnce(t *testing.T) {
	g, pass, idom := full()
	want := callAll(g, pass, idom)
	var all sync.WaitGroup
	for range 8 {
		all.Go(func() {
			for range 200 {
				if !reflect.DeepEqual(callAll(g, pass, idom), want) {
					t.Error("another answer")
				}
			}
		})
	}
	all.Wait()
}
