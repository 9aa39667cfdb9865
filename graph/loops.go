package graph

// nest finds which Loops there are and which stands in which. The Head of a Loop dominates all of its Body, and so of two Loops that share a point one has the whole other: each is found behind those within it, of which only their Heads are looked at again.
type nest struct {
	preds [][]int
	first []int  // of each point the place at which it is met going down from dominators to what they dominate; none of what is not come to
	last  []int  // of each point the place at which it is left there
	heads []bool // is it a Head?
	outer []int  // of each point the Head of the innermost Loop around it that is not its own
	top   []int  // of each point one around it, or itself, on the way to the outermost Head that has been found
	open  []int  // those that have been taken and not yet been gone on from
}

// Loops tells what one goes round in among the points that are come to.
func Loops(g [][]int) []Loop {
	n := nestOf(g)
	place := noneOf(g)
	var loops []Loop
	for at, is := range n.heads {
		if is {
			place[at] = len(loops)
			loops = append(loops, Loop{Head: at, Inside: none})
		}
	}
	for i := range loops {
		if around := n.outer[loops[i].Head]; around != none {
			loops[i].Inside = place[around]
		}
	}
	for at := range g {
		for h := n.innermost(at); h != none; h = n.outer[h] {
			l := &loops[place[h]]
			l.Body = append(l.Body, at)
		}
	}
	return loops
}

// nestOf looks for Loops from the points that are dominated most: what stands within a Loop is found ahead of it.
func nestOf(g [][]int) *nest {
	down := walkOf(kids(Doms(g)))
	n := &nest{preds: Preds(g), first: places(g, down.met), last: places(g, down.left), heads: make([]bool, len(g)), outer: noneOf(g), top: make([]int, len(g))}
	for at := range n.top {
		n.top[at] = at
	}
	for i := len(down.met) - 1; i >= 0; i-- {
		n.find(down.met[i])
	}
	return n
}

// kids is the graph that leads from each point to those of which it is the immediate dominator.
func kids(idom []int) [][]int {
	g := make([][]int, len(idom))
	for at, above := range idom {
		if above != none {
			g[above] = append(g[above], at)
		}
	}
	return g
}

// find finds h's Loop, if there is one.
func (n *nest) find(h int) {
	for _, p := range n.preds[h] {
		if n.dominates(h, p) {
			n.heads[h] = true
			n.take(h, p)
		}
	}
next:
	if last := len(n.open) - 1; last >= 0 {
		at := n.open[last]
		n.open = n.open[:last]
		n.takeAll(h, n.preds[at])
		goto next
	}
}

// takeAll takes those of l that are come to.
func (n *nest) takeAll(h int, l []int) {
	for _, p := range l {
		if n.first[p] != none {
			n.take(h, p)
		}
	}
}

// take takes p into h's Loop, and the whole outermost Loop that has it, unless it is there.
func (n *nest) take(h, p int) {
	if at := n.outermost(p); at != h {
		n.outer[at], n.top[at] = h, h
		n.open = append(n.open, at)
	}
}

// outermost is the Head of the outermost Loop found that has at; at, if there is none. The way that is gone is halved for those who come after.
func (n *nest) outermost(at int) int {
up:
	if n.top[at] != at {
		n.top[at] = n.top[n.top[at]]
		at = n.top[at]
		goto up
	}
	return at
}

// innermost is the Head of the innermost Loop that has at.
func (n *nest) innermost(at int) int {
	if n.heads[at] {
		return at
	}
	return n.outer[at]
}

// dominates tells of h, which is come to, whether it dominates p (of which none is ahead of all places, if it is not). Places are held against each other, since the way up from p may be long.
func (n *nest) dominates(h, p int) bool {
	return n.first[h] <= n.first[p] && n.last[p] <= n.last[h]
}
