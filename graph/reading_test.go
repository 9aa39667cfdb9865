package graph_test

import (
	"fmt"
	"math/bits"
	"math/rand"
	"slices"
	"testing"

	"ratline/graph"
)

// A second reading of the chapter, to hold the answers against: sets of points are the bits of a number, so that there may be 64 of them, and every definition is asked as it stands.

type set uint64

func (s set) has(at int) bool   { return s>>at&1 == 1 }
func (s set) count() int        { return bits.OnesCount64(uint64(s)) }
func (s set) with(at int) set   { return s | 1<<at }
func (s set) less(at int) set   { return s &^ (1 << at) }
func allOf(n int) set           { return 1<<n - 1 }
func (s set) list() (l []int)   { return s.add(l) }
func (s set) within(o set) bool { return s&^o == 0 }

func (s set) add(l []int) []int {
	for at := range 64 {
		if s.has(at) {
			l = append(l, at)
		}
	}
	return l
}

// reading has of each point the set of those that it leads to.
type reading []set

func read(g [][]int) reading {
	r := make(reading, len(g))
	for at, l := range g {
		for _, p := range l {
			if p >= 0 && p < len(g) {
				r[at] = r[at].with(p)
			}
		}
	}
	return r
}

// ways is of each point those that it comes to by one edge or more, if no other points are gone to than those of among.
func (r reading) ways(among set) reading {
	w := make(reading, len(r))
	for at := range r {
		if among.has(at) {
			w[at] = r[at] & among
		}
	}
	for by := range w {
		for at := range w {
			if w[at].has(by) {
				w[at] |= w[by]
			}
		}
	}
	return w
}

func (r reading) reach(among set) set {
	if len(r) == 0 || !among.has(0) {
		return 0
	}
	return r.ways(among)[0].with(0)
}

func (r reading) preds(at int) set {
	var s set
	for p := range r {
		if r[p].has(at) {
			s = s.with(p)
		}
	}
	return s
}

// doms is of each point that is come to all those without which one does not come to it.
func (r reading) doms() []set {
	all, d := r.reach(allOf(len(r))), make([]set, len(r))
	for a := range r {
		for _, b := range (all &^ r.reach(allOf(len(r)).less(a))).list() {
			d[b] = d[b].with(a)
		}
	}
	return d
}

// idom is the one of at's dominators, but for itself, that all others of these dominate.
func idom(doms []set, at int) int {
	others, found := doms[at].less(at), -1
	for _, p := range others.list() {
		if others.within(doms[p]) {
			if found != -1 {
				panic("two immediate dominators")
			}
			found = p
		}
	}
	if others != 0 && found == -1 {
		panic("no immediate dominator")
	}
	return found
}

// order asks each point to come ahead of all that was told when it is left.
func order(g [][]int) []int {
	var l []int
	come := map[int]int{}
	var visit func(at int)
	visit = func(at int) {
		if _, is := come[at]; is || at < 0 || at >= len(g) {
			return
		}
		come[at] = 1
		for _, p := range g[at] {
			visit(p)
		}
		l = append([]int{at}, l...)
	}
	visit(0)
	return l
}

func (r reading) loops() []graph.Loop {
	var l []graph.Loop
	var bodies []set
	reach, doms := r.reach(allOf(len(r))), r.doms()
	for _, h := range reach.list() {
		var ends set
		for _, p := range (r.preds(h) & reach).list() {
			if doms[p].has(h) {
				ends = ends.with(p)
			}
		}
		if ends == 0 {
			continue
		}
		body := ends.with(h)
		for at, w := range r.ways(reach.less(h)) {
			if w&ends != 0 {
				body = body.with(at)
			}
		}
		l, bodies = append(l, graph.Loop{Head: h, Body: body.list()}), append(bodies, body)
	}
	for i := range l {
		l[i].Inside = inside(bodies, i)
	}
	return l
}

func inside(bodies []set, i int) int {
	best := -1
	for k, b := range bodies {
		if k != i && bodies[i].within(b) && (best == -1 || b.count() < bodies[best].count()) {
			best = k
		}
	}
	return best
}

func (r reading) cyclic(pass []bool) bool {
	among := r.reach(allOf(len(r)))
	for at, is := range pass {
		if is && at < len(r) {
			among = among.less(at)
		}
	}
	for at, w := range r.ways(among) {
		if w.has(at) {
			return true
		}
	}
	return false
}

// onWayUp gathers b and whatever is above what has been gathered, as often as there are points.
func onWayUp(idom []int, b int) map[int]int {
	l := map[int]int{}
	for range idom {
		if b < 0 || b >= len(idom) {
			break
		}
		l[b] = 1
		b = idom[b]
	}
	return l
}

// expectRead holds all that is told of g against the second reading; Cyclic with passes too.
func expectRead(t *testing.T, g [][]int, passes ...[]bool) {
	t.Helper()
	r := read(g)
	reach, doms := r.reach(allOf(len(g))), r.doms()
	tell := func(name string, got, want any) {
		t.Helper()
		t.Fatalf("%s(%v) is %v, want %v", name, g, got, want)
	}
	come, from, above := graph.Reach(g), graph.Preds(g), graph.Doms(g)
	if len(come) != len(g) || len(from) != len(g) || len(above) != len(g) {
		tell("lengths", []int{len(come), len(from), len(above)}, len(g))
	}
	for at := range g {
		if come[at] != reach.has(at) {
			tell("Reach", come, reach.list())
		}
		if !slices.Equal(from[at], r.preds(at).list()) {
			tell("Preds", from, r.preds(at).list())
		}
		if want := idom(doms, at); above[at] != want {
			tell("Doms", above, want)
		}
		for a := range g {
			if reach.has(at) && graph.Dominates(above, a, at) != doms[at].has(a) {
				tell("Dominates", []int{a, at}, doms[at].has(a))
			}
		}
	}
	if got, want := graph.Order(g), order(g); !slices.Equal(got, want) {
		tell("Order", got, want)
	}
	if got, want := graph.Loops(g), r.loops(); !slices.EqualFunc(got, want, sameLoop) {
		tell("Loops", got, want)
	}
	for _, pass := range append(passes, nil) {
		if got, want := graph.Cyclic(g, pass), r.cyclic(pass); got != want {
			tell("Cyclic", fmt.Sprint(got, pass), want)
		}
	}
}

func sameLoop(a, b graph.Loop) bool {
	return a.Head == b.Head && a.Inside == b.Inside && slices.Equal(a.Body, b.Body)
}

// Promise 10.3: all as the definitions say. All graphs of few points.

// eachOf calls do with each choice of a list for each of n points.
func eachOf(n int, choices [][]int, do func(g [][]int)) {
	g := make([][]int, n)
	var fill func(at int)
	fill = func(at int) {
		if at == n {
			do(g)
			return
		}
		for _, l := range choices {
			g[at] = l
			fill(at + 1)
		}
	}
	fill(0)
}

// sets are all sets of n points as lists, rising or falling.
func sets(n int, falling bool) [][]int {
	var all [][]int
	for s := range 1 << n {
		l := set(s).list()
		if falling {
			slices.Reverse(l)
		}
		all = append(all, l)
	}
	return all
}

// words are all lists of up to so many of letters.
func words(letters []int, longest int) [][]int {
	all := [][]int{nil}
	for at := 0; at < len(all); at++ {
		if len(all[at]) < longest {
			for _, x := range letters {
				all = append(all, append(slices.Clone(all[at]), x))
			}
		}
	}
	return all
}

// passesOf are all passes of n places.
func passesOf(n int) [][]bool {
	var all [][]bool
	for s := range 1 << n {
		pass := make([]bool, n)
		for _, at := range set(s).list() {
			pass[at] = true
		}
		all = append(all, pass)
	}
	return all
}

func TestAllGraphsOfFewPoints(t *testing.T) {
	for n := range 5 {
		passes := passesOf(n)
		for _, falling := range []bool{false, true} {
			eachOf(n, sets(n, falling), func(g [][]int) { expectRead(t, g, passes...) })
		}
	}
}

// In each order, with doubles, and with what is no point.
func TestAllListsOfFewPoints(t *testing.T) {
	eachOf(1, words(to(-1, 0, 1), 4), func(g [][]int) { expectRead(t, g, passesOf(2)...) })
	eachOf(2, words(to(-1, 0, 1, 2), 3), func(g [][]int) { expectRead(t, g, passesOf(1)...) })
	eachOf(3, words(to(0, 1, 2, 3), 2), func(g [][]int) { expectRead(t, g, passesOf(3)...) })
}

func TestAllWaysUpOfFewPoints(t *testing.T) {
	for n := range 6 {
		for _, idom := range words(allOfList(-1, n), n) {
			for b := -1; b <= len(idom); b++ {
				up := onWayUp(idom, b)
				for a := -1; a <= len(idom); a++ {
					if graph.Dominates(idom, a, b) != (up[a] == 1) {
						t.Fatal(idom, a, b)
					}
				}
			}
		}
	}
}

func allOfList(from, to int) []int {
	var l []int
	for at := from; at <= to; at++ {
		l = append(l, at)
	}
	return l
}

// Many likely greater ones.

// someGraph is a graph of n points that leads about edges times from each, some of it to what is no point.
func someGraph(r *rand.Rand, n int, edges float64) [][]int {
	g := make([][]int, n)
	for range int(float64(n)*edges + 0.5) {
		from := r.Intn(n)
		g[from] = append(g[from], r.Intn(n+1)-r.Intn(2)*r.Intn(2))
	}
	return g
}

// maker lays a graph as a program's blocks lie: points behind each other, ways that part and meet, rounds with ways out and back.
type maker struct {
	r     *rand.Rand
	g     [][]int
	heads []int // of the rounds that are open
	ends  []int // where a way out of each leads
}

func (m *maker) point() int {
	m.g = append(m.g, nil)
	return len(m.g) - 1
}

func (m *maker) edge(from, to int) {
	m.g[from] = append(m.g[from], to)
}

// lay lays something behind at and answers where it ends.
func (m *maker) lay(at, deep int) int {
	for range 1 + m.r.Intn(3) {
		next := m.point()
		switch k := m.r.Intn(6); {
		case k < 2 && deep > 0:
			one, other := m.point(), m.point()
			m.edge(at, one)
			m.edge(at, other)
			m.edge(m.lay(one, deep-1), next)
			m.edge(m.lay(other, deep-1), next)
		case k < 4 && deep > 0:
			head, body := m.point(), m.point()
			m.edge(at, head)
			m.edge(head, body)
			m.edge(head, next)
			m.heads, m.ends = append(m.heads, head), append(m.ends, next)
			m.edge(m.lay(body, deep-1), head)
			m.heads, m.ends = m.heads[:len(m.heads)-1], m.ends[:len(m.ends)-1]
		case k == 4 && len(m.heads) > 0:
			i := m.r.Intn(len(m.heads))
			m.edge(at, []int{m.heads[i], m.ends[i]}[m.r.Intn(2)])
			if m.r.Intn(4) > 0 {
				m.edge(at, next)
			}
		default:
			m.edge(at, next)
		}
		at = next
	}
	return at
}

// likelyGraph is one that a program might have, of at most so many points, its points mixed or not.
func likelyGraph(r *rand.Rand, most int) [][]int {
	for {
		m := &maker{r: r}
		m.lay(m.point(), 1+r.Intn(4))
		if len(m.g) > most {
			continue
		}
		if r.Intn(2) == 0 {
			return mixed(r, m.g)
		}
		return m.g
	}
}

// mixed is g with other numbers for its points, but for the first one.
func mixed(r *rand.Rand, g [][]int) [][]int {
	name := append(to(0), r.Perm(len(g)-1)...)
	for i := range name[1:] {
		name[i+1]++
	}
	other := make([][]int, len(g))
	for at, l := range g {
		for _, p := range l {
			other[name[at]] = append(other[name[at]], name[p])
		}
	}
	return other
}

func somePass(r *rand.Rand, n int) []bool {
	pass := make([]bool, r.Intn(n+3))
	for at := range pass {
		pass[at] = r.Intn(3) == 0
	}
	return pass
}

func TestSomeGraphs(t *testing.T) {
	r := rand.New(rand.NewSource(103))
	for range 60000 {
		n := 1 + r.Intn(9)
		expectRead(t, someGraph(r, n, 0.5+2*r.Float64()), somePass(r, n), somePass(r, n))
	}
	for range 4000 {
		n := 10 + r.Intn(55)
		expectRead(t, someGraph(r, n, 0.8+r.Float64()*r.Float64()*float64(n)/3), somePass(r, n), somePass(r, n))
	}
}

func TestLikelyGraphs(t *testing.T) {
	r := rand.New(rand.NewSource(104))
	deepest := 0
	for range 10000 {
		g := likelyGraph(r, 60)
		for range r.Intn(2) * r.Intn(6) { // edges that no program has: into rounds, and from what is not come to
			from := r.Intn(len(g))
			g[from] = append(g[from], r.Intn(len(g)))
		}
		n := len(g)
		expectRead(t, g, somePass(r, n), somePass(r, n))
		deepest = max(deepest, nested(graph.Loops(g)))
	}
	if deepest < 4 {
		t.Error("no Loops deep within one another:", deepest)
	}
}

// nested is how many Loops stand within one another.
func nested(l []graph.Loop) int {
	most := 0
	for i := range l {
		n := 0
		for at := i; at != -1; at = l[at].Inside {
			n++
		}
		most = max(most, n)
	}
	return most
}

func FuzzGraph(f *testing.F) {
	f.Add([]byte{4, 1, 2, 0x83, 3, 0x80})
	f.Fuzz(func(t *testing.T, b []byte) {
		g := graphOf(b)
		expectRead(t, g, somePass(rand.New(rand.NewSource(int64(len(b)))), len(g)))
	})
}

// graphOf is the graph that bytes tell: how many points there are, then of each edge where it leads; a high bit goes on to the next point.
func graphOf(b []byte) [][]int {
	if len(b) == 0 {
		return nil
	}
	g := make([][]int, b[0]%65)
	at := 0
	for _, x := range b[1:] {
		if at += int(x >> 7); at < len(g) {
			g[at] = append(g[at], int(x&127)-2)
		}
	}
	return g
}

func TestSomeBytes(t *testing.T) {
	r := rand.New(rand.NewSource(105))
	for range 20000 {
		b := make([]byte, r.Intn(60))
		for i := range b {
			b[i] = byte(r.Intn(256))
			if r.Intn(3) > 0 {
				b[i] &= 0x8f
			}
		}
		g := graphOf(b)
		expectRead(t, g, somePass(r, len(g)))
	}
}
