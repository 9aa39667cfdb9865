package sim_test

import (
	"math"
	"math/rand"
	"reflect"
	"slices"
	"sync"
	"testing"

	"ratline/api"
	"ratline/likely"
	"ratline/sim"
	"ratline/val"
)

// Promise 12.3, W9: every call ends and none panics, whatever it is given.

func TestRawPrograms(t *testing.T) {
	r := rand.New(rand.NewSource(123))
	far := []int{math.MinInt, math.MinInt + 1, -1 << 40, -65, -1, 0, 0, 0, 1, 1, 2, 3, 8, 9, 64, 65, 200, 2000, 4095, 4096, 1 << 40, math.MaxInt - 1, math.MaxInt}
	some := func() int { return far[r.Intn(len(far))] }
	maybe := func() int { return r.Intn(2) * some() }
	odd := append(notOk(), val.Nil(), val.Int(1))
	for range 30000 {
		p := api.RProg{Main: maybe(), Fns: make([]api.RFn, r.Intn(4))}
		for n := range p.Fns {
			f := api.RFn{Params: maybe(), Regs: maybe() + 1, Blocks: make([]api.RBlock, r.Intn(4))}
			for k := range f.Blocks {
				f.Blocks[k].Term = api.RTerm{Kind: r.Intn(5), A: maybe(), To: maybe(), Else: maybe()}
				for range r.Intn(4) {
					i := api.RIns{Op: r.Intn(10), D: maybe(), A: maybe(), B: maybe(), N: some(), Deep: maybe(), K: odd[r.Intn(len(odd))]}
					for range r.Intn(4) {
						i.L = append(i.L, some())
					}
					f.Blocks[k].Ins = append(f.Blocks[k].Ins, i)
				}
			}
			p.Fns[n] = f
		}
		expectRead(t, p, min(some(), 1000))
	}
}

// Lists that are far too long are refused.
func TestTooLong(t *testing.T) {
	long := block(ret(0), api.RIns{Op: api.RList, L: make([]int, 1<<22)})
	many := block(ret(0), make([]api.RIns, 1<<18)...)
	for _, f := range []api.RFn{fn(0, 1, long), fn(0, 1, many), fn(0, 1, make([]api.RBlock, 1<<18)...)} {
		expectCheck(t, "long", program(f), api.ErrForm)
		if sim.Size(f) < 1<<18 || len(sim.Graph(f)) != len(f.Blocks) || len(sim.Text(f)) < 1<<18 {
			t.Error(sim.Size(f))
		}
	}
	expectCheck(t, "many", api.RProg{Fns: make([]api.RFn, 1<<18)}, api.ErrForm)
}

// Rules 3 and 8: what is handed in is not changed, nor kept; what is answered is new memory; the same call answers the same.

// spare is v with room behind its list, which holds something.
func spare(v api.Value) api.Value {
	v.L = append(slices.Clone(v.L), val.Text("spare"))[:len(v.L)]
	return v
}

// full is a program that outputs, returns, pushes, hands on and keeps lists of its constants, with spare room behind all lists.
func full() api.RProg {
	inner := spare(val.List(values(val.Int(1), val.Int(2))))
	outer := spare(api.Value{Kind: api.VList, L: values(inner, inner, val.Text("a"))})
	l := code(
		konst(0, outer), konst(1, inner), out(0), out(0), out(1), mov(2, 1), out(2),
		list(3, 0, 1, 0), out(3), out(3), number(4, 0), bin(api.OGet, 4, 0, 4), out(4), bin(api.OAdd, 4, 0, 0), out(4), bin(api.OPush, 4, 0, 1), out(4),
		tick(1), call(1, 5, 0, 1), out(5), un(api.ONot, 4, 0))
	for n := range l {
		l[n].L = append(l[n].L, 77, 78)[:len(l[n].L)]
	}
	blocks := []api.RBlock{block(br(4, 1, 2), append(l, out(5), tick(9))[:len(l)]...), block(ret(3)), block(ret(0))}
	p := program(fn(0, 6, append(blocks, block(jump(9)))[:3]...), fn(2, 3, block(ret(0), list(2, 0, 1), out(2))))
	p.Fns = append(p.Fns, api.RFn{Name: "spare"})[:2]
	return p
}

// everything is all that p has, spare room too.
func everything(p api.RProg) []any {
	l := []any{p.Main}
	var all func(v api.Value)
	all = func(v api.Value) {
		l = append(l, v, v.L[:cap(v.L)])
		for _, x := range v.L {
			all(x)
		}
	}
	for _, f := range p.Fns[:cap(p.Fns)] {
		l = append(l, f, f.Blocks[:cap(f.Blocks)])
		for _, b := range f.Blocks {
			l = append(l, b.Ins[:cap(b.Ins)])
			for _, i := range b.Ins {
				l = append(l, i.L[:cap(i.L)])
				all(i.K)
			}
		}
	}
	return l
}

// callAll makes every call of the package.
func callAll(p api.RProg, fuel int) {
	sim.Check(p)
	sim.Run(p, fuel)
	for _, f := range p.Fns {
		sim.Graph(f)
		sim.Size(f)
		sim.Text(f)
	}
}

func TestNothingIsChanged(t *testing.T) {
	p, q := full(), full()
	for fuel := -1; fuel < 20; fuel++ {
		expectRead(t, p, fuel)
	}
	if x, _ := sim.Run(p, 20); x.E != api.ROK || len(x.Events) != 12 || val.Truth(x.V) == false {
		t.Fatal(len(x.Events), tell(x))
	}
	callAll(p, 20)
	if !reflect.DeepEqual(everything(p), everything(q)) {
		t.Error("what was handed in is changed")
	}
	for seed := range int64(3000) {
		p, q := likely.Registers(rand.New(rand.NewSource(seed)).Intn, 9), likely.Registers(rand.New(rand.NewSource(seed)).Intn, 9)
		callAll(p, 20)
		if !reflect.DeepEqual(everything(p), everything(q)) {
			t.Fatal("what was handed in is changed")
		}
	}
}

// places are where all things of lists stand, spare room too.
type places map[any]int

func (to places) value(v api.Value) {
	l := v.L[:cap(v.L)]
	for i := range l {
		to[&l[i]]++
		to.value(l[i])
	}
}

func (to places) trace(x api.Trace) {
	l := x.Events[:cap(x.Events)]
	for i := range l {
		to[&l[i]]++
		to.value(l[i].V)
	}
	to.value(x.V)
}

func (to places) graph(g [][]int) {
	g = g[:cap(g)]
	for n := range g {
		to[&g[n]]++
		l := g[n][:cap(g[n])]
		for i := range l {
			to[&l[i]]++
		}
	}
}

// No two lists of an answer share memory, and none shares any with the program.
func TestAnswersAreNewMemory(t *testing.T) {
	p := full()
	to := places{}
	for _, f := range p.Fns {
		for _, b := range f.Blocks {
			for _, i := range b.Ins {
				to.value(i.K)
			}
		}
	}
	for place := range to { // the program's own lists may share what they like
		to[place] = 1
	}
	first, _ := sim.Run(p, 99)
	second, _ := sim.Run(p, 99)
	to.trace(first)
	to.trace(second)
	for range 2 {
		to.graph(sim.Graph(p.Fns[0]))
	}
	for _, n := range to {
		if n > 1 {
			t.Fatal("two lists share memory")
		}
	}
	if len(to) < 100 {
		t.Error(len(to))
	}
	before := tell(second)
	spoil(first)
	third, _ := sim.Run(p, 99)
	if tell(second) != before || tell(third) != before {
		t.Error(short(tell(third)))
	}
}

// spoil overwrites all lists of a trace.
func spoil(x api.Trace) {
	var all func(v api.Value)
	all = func(v api.Value) {
		l := v.L[:cap(v.L)]
		for i := range l {
			all(l[i])
			l[i] = api.Value{Kind: 77}
		}
	}
	all(x.V)
	l := x.Events[:cap(x.Events)]
	for i := range l {
		all(l[i].V)
		l[i] = api.Event{Kind: 77}
	}
}

// Rule 7: what a constant holds in fields that its kind leaves unused is not told, and changes nothing.
func TestUnusedFieldsAreNotTold(t *testing.T) {
	minus := complex(math.Copysign(0, -1), math.Copysign(0, -1))
	room := make([]api.Value, 0, 4)
	for _, c := range []struct{ v, want api.Value }{
		{api.Value{Z: minus, L: room}, val.Nil()},
		{api.Value{Kind: api.VInt, N: 3, Z: minus, L: room}, val.Int(3)},
		{api.Value{Kind: api.VText, S: "a", Z: minus, L: room}, val.Text("a")},
		{api.Value{Kind: api.VCx, Z: 2i, L: room}, val.Cx(2i)},
		{api.Value{Kind: api.VList, Z: minus, L: values(api.Value{Z: minus, L: room})}, val.List(values(val.Nil()))},
	} {
		p := line(0, konst(0, c.v), konst(1, c.want), out(0), bin(api.OEq, 2, 0, 1), out(2))
		x, e := sim.Run(p, 2)
		if e != api.OK || len(x.Events) != 2 || x.Events[1].V.N != 1 {
			t.Fatal(tell(x), e)
		}
		for _, v := range values(x.Events[0].V, x.V) {
			if !reflect.DeepEqual(v, c.want) || math.Signbit(real(v.Z)) || math.Signbit(imag(v.Z)) || len(v.L) > 0 && math.Signbit(real(v.L[0].Z)) {
				t.Errorf("%#v, want %#v", v, c.want)
			}
		}
	}
}

// Promise 12.2: the same program and fuel tell the same, whoever else calls.
func TestTheSameIsTold(t *testing.T) {
	r := rand.New(rand.NewSource(124))
	for range 400 {
		p, fuel := likely.Registers(r.Intn, 9), r.Intn(60)
		want, e := sim.Run(p, fuel)
		var all sync.WaitGroup
		for range 4 {
			all.Go(func() {
				if x, wrong := sim.Run(p, fuel); wrong != e || !reflect.DeepEqual(x, want) {
					t.Error(short(p), tell(x), tell(want))
				}
				if sim.Check(p) != e {
					t.Error(short(p))
				}
			})
		}
		all.Wait()
	}
}
