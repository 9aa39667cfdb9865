package inline

import (
	"slices"

	"ratline/api"
	"ratline/blocks"
	"ratline/live"
	"ratline/val"
)

// opener lays open the calls of a program.
type opener struct {
	bodies []*body // of each function; nil of one that is not laid open
	deep   int
}

func newOpener(p api.RProg, size, deep int) opener {
	o := opener{bodies: make([]*body, len(p.Fns)), deep: mostDeep(deep)}
	for n, isCyclic := range Cyclic(p) {
		if b := bodyOf(p.Fns[n]); !isCyclic && b.size <= mostSize(size) {
			o.bodies[n] = &b
		}
	}
	return o
}

// place is where an Ins stands.
type place struct{ block, ins int }

// opened is f with its calls laid open: the first one for which there is room, until there is none. It ends, since each time there is a block more.
func (o opener) opened(f api.RFn) api.RFn {
	g := blocks.Own(f)
	take := roomIn(g)
	for at, is := o.first(g, take); is; at, is = o.first(g, take) {
		g = o.layOpen(g, at)
	}
	return g
}

// first is where the first call stands that is to be laid open, and whether there is one.
func (o opener) first(f api.RFn, take room) (place, bool) {
	for n, b := range f.Blocks {
		for k := range b.Ins {
			if i := &b.Ins[k]; o.mayOpen(i) && take(i, o.bodies[i.N]) {
				return place{n, k}, true
			}
		}
	}
	return place{}, false
}

// mayOpen tells whether i is a call that is to be laid open, if there is room.
func (o opener) mayOpen(i *api.RIns) bool {
	return i.Op == api.RCall && i.Deep < o.deep && blocks.Has(o.bodies, i.N) && o.bodies[i.N] != nil
}

// layOpen is f, which is changed by that, with a body in the place of a call: the block in which the call stood has what was ahead of it, and behind the body's blocks there is one that has what was behind it.
func (o opener) layOpen(f api.RFn, at place) api.RFn {
	from := f.Blocks[at.block].Ins
	call := from[at.ins]
	b := o.bodies[call.N]
	s := seat{call: call, registers: span{registers(f), b.registers}, blocks: span{at.block + 1, len(b.Blocks)}}
	f.Regs = registers(f) + b.registers
	moveUp(f.Blocks, at.block, len(b.Blocks)+1)
	head := api.RBlock{Ins: slices.Concat(from[:at.ins], s.entry(b.Params)), Term: api.RTerm{Kind: api.TJump, To: s.blocks.at(0)}}
	rest := api.RBlock{Ins: from[at.ins+1:], Term: f.Blocks[at.block].Term}
	f.Blocks = slices.Concat(f.Blocks[:at.block], []api.RBlock{head}, s.body(b), []api.RBlock{rest}, f.Blocks[at.block+1:])
	return f
}

// moveUp leads the ends of l to where blocks stand when so many more are put behind block last.
func moveUp(l []api.RBlock, last, more int) {
	places := make([]int, len(l))
	for n := range l {
		places[n] = n
		if n > last {
			places[n] += more
		}
	}
	for n := range l {
		l[n].Term = blocks.Led(l[n].Term, func(to int) int {
			if blocks.Has(places, to) {
				return places[to]
			}
			return none
		})
	}
}

// none stands where there is no register and no block.
const none = -1

// span is where numbers from 0 on, so many of them, stand in another function: from first on.
type span struct{ first, count int }

// at is where n stands. What names nothing in a body names nothing in its caller either.
func (s span) at(n int) int {
	if n < 0 || n >= s.count {
		return none
	}
	return s.first + n
}

// seat is the place in its caller that a body takes.
type seat struct {
	call              api.RIns
	registers, blocks span
}

// entry are the Ins that give all registers of a body what they begin with.
func (s seat) entry(params int) []api.RIns {
	l := make([]api.RIns, s.registers.count)
	for r := range l {
		l[r] = api.RIns{Op: api.RConst, D: s.registers.at(r), Deep: s.deep()}
		if r < params && r < len(s.call.L) {
			l[r].Op, l[r].A = api.RMov, s.call.L[r]
		}
	}
	return l
}

// deep is the Deep of all that stands in the place of the call.
func (s seat) deep() int {
	return s.call.Deep + 1
}

// body are b's blocks, as they stand in the caller.
func (s seat) body(b *body) []api.RBlock {
	l := make([]api.RBlock, len(b.Blocks))
	for n, x := range b.Blocks {
		l[n].Ins = make([]api.RIns, len(x.Ins), len(x.Ins)+1)
		for k, i := range x.Ins {
			l[n].Ins[k] = s.ins(i)
		}
		s.end(&l[n], x.Term)
	}
	return l
}

func (s seat) ins(i api.RIns) api.RIns {
	i.K, i.L, i.Deep = val.Copy(i.K), slices.Clone(i.L), s.deep()
	blocks.Read(&i, s.registers.at)
	if d := live.Def(i); d != none {
		i.D = s.registers.at(d)
	}
	return i
}

// end ends b as t says. What would return goes on behind the body, when it has written what it returns.
func (s seat) end(b *api.RBlock, t api.RTerm) {
	switch t.Kind {
	case api.TRet:
		b.Ins = append(b.Ins, api.RIns{Op: api.RMov, D: s.call.D, A: s.registers.at(t.A), Deep: s.deep()})
		t = api.RTerm{Kind: api.TJump, To: s.blocks.first + s.blocks.count}
	case api.TBr:
		t.A = s.registers.at(t.A)
		fallthrough
	default:
		t = blocks.Led(t, s.blocks.at)
	}
	b.Term = t
}
