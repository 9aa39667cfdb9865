package hand_test

import (
	"reflect"
	"testing"

	"ratline/api"
	"ratline/gen"
	"ratline/hand"
	"ratline/lift"
	"ratline/sim"
	"ratline/val"
)

// What is written by hand is what it says.
func TestWords(t *testing.T) {
	f := hand.Fn(0, 4,
		hand.Block(hand.Br(2, 1, 2), hand.Const(0, val.Int(2)), hand.Mov(1, 0), hand.Bin(api.OAdd, 2, 0, 1), hand.Un(api.ONeg, 3, 2)),
		hand.Block(hand.Jump(2), hand.Tick(7), hand.Call(0, 3, 1, 2), hand.Deep(4, hand.List(3, 0, 1))),
		hand.Block(hand.Ret(3), hand.Code(hand.Out(3))...))
	want := "block 0\n1 0 0 0 0 2\n2 1 0 0 0\n3 2 0 1 1\n4 3 2 0 15\n2 2 1 2\nblock 1\n7 0 0 0 7\n5 3 0 0 0 1 2\n8 3 0 0 0 0 1\n1 0 2 0\nblock 2\n6 0 3 0 0\n3 3 0 0\n"
	if s := sim.Text(f); s != want || f.Blocks[1].Ins[2].Deep != 4 || f.Params != 0 || f.Regs != 4 {
		t.Errorf("%q", s)
	}
}

func TestLifted(t *testing.T) {
	p, _, _ := gen.Source("fn main() { print 1; }")
	want, _ := lift.Program(p)
	if q, e := hand.Lifted("fn main() { print 1; }"); e != api.OK || !reflect.DeepEqual(q, want) {
		t.Error(q, e)
	}
	if q, e := hand.Lifted("fn main() { print x; }"); e != api.ErrName || len(q.Fns) != 0 {
		t.Error(q, e)
	}
}

// Two runs that differ in one thing are not alike.
func TestAlike(t *testing.T) {
	x := api.Trace{Events: []api.Event{{Kind: api.ETick, N: 1}, {Kind: api.EOut, V: val.Int(2)}}, V: val.Int(3)}
	if !hand.Alike(x, x) || !hand.Alike(api.Trace{}, api.Trace{Events: []api.Event{}}) {
		t.Error("not alike")
	}
	for n, y := range []api.Trace{
		{Events: x.Events[:1], V: x.V}, {Events: x.Events, V: val.Int(4)}, {Events: x.Events, V: x.V, E: api.RFuel},
		{Events: []api.Event{{Kind: api.ETick, N: 2}, x.Events[1]}, V: x.V}, {Events: []api.Event{x.Events[0], {Kind: api.EOut, V: val.Int(3)}}, V: x.V}, {Events: []api.Event{{Kind: api.EOut, N: 1}, x.Events[1]}, V: x.V},
	} {
		if hand.Alike(x, y) || hand.Alike(y, x) {
			t.Error(n, "alike")
		}
	}
}

func TestMapped(t *testing.T) {
	p := api.RProg{Fns: []api.RFn{{Name: "a"}, {Name: "b"}}, Main: 1}
	q := hand.Mapped(p, func(f api.RFn) api.RFn { f.Name += f.Name; return f })
	if q.Fns[0].Name != "aa" || q.Fns[1].Name != "bb" || q.Main != 1 || p.Fns[0].Name != "a" || p.Fns[1].Name != "b" {
		t.Error(p, q)
	}
}

func some() api.RFn {
	l, _ := val.Read("[1, [2]]")
	return hand.Fn(1, 2, hand.Block(hand.Jump(0), hand.Const(1, l), hand.List(1, 0), hand.List(1)), hand.Block(hand.Ret(0)))
}

// Plain and Full mean what f means, in memory of their own.
func TestPlainAndFull(t *testing.T) {
	empty := some()
	empty.Blocks[0].Ins[2].L, empty.Blocks[1].Ins = []int{}, []api.RIns{}
	if !reflect.DeepEqual(hand.Plain(empty), hand.Plain(some())) || reflect.DeepEqual(empty, some()) {
		t.Error("not plain")
	}
	f, g := some(), hand.Full(some())
	if sim.Text(f) != sim.Text(g) || cap(g.Blocks) == len(g.Blocks) || cap(g.Blocks[0].Ins[1].L) == 1 {
		t.Error(g)
	}
	hand.Plain(f).Blocks[0].Ins[1].L[0] = 9
	hand.Full(f).Blocks[0].Ins[0].K.L[1].L[0] = val.Int(9)
	if !reflect.DeepEqual(f, some()) {
		t.Error("changed", f)
	}
}

// Copied means what f means, but for values that are not Ok, in memory of its own.
func TestCopied(t *testing.T) {
	odd := some()
	odd.Blocks[0].Ins[1].K, odd.Blocks[0].Ins[2].L = api.Value{Kind: 9}, []int{}
	if f := hand.Copied(odd); !reflect.DeepEqual(f, hand.Plain(some())) || reflect.DeepEqual(odd, some()) {
		t.Error(f)
	}
	f := some()
	hand.Copied(f).Blocks[0].Ins[0].K.L[1].L[0] = val.Int(9)
	if !reflect.DeepEqual(f, some()) {
		t.Error("changed", f)
	}
}

// Each thing that f has, spare room too, is in Everything.
func TestEverything(t *testing.T) {
	want := hand.Everything(hand.Full(some()))
	for n, change := range []func(f *api.RFn){
		func(f *api.RFn) {},
		func(f *api.RFn) { f.Name = "g" }, func(f *api.RFn) { f.Params = 2 }, func(f *api.RFn) { f.Regs = 3 },
		func(f *api.RFn) { f.Blocks[1].Term.A = 1 }, func(f *api.RFn) { f.Blocks[:3][2].Term.A = 1 },
		func(f *api.RFn) { f.Blocks[0].Ins[1].D = 0 }, func(f *api.RFn) { f.Blocks[1].Ins[:1][0].A = 1 },
		func(f *api.RFn) { f.Blocks[0].Ins[1].L[0] = 1 }, func(f *api.RFn) { f.Blocks[0].Ins[2].L[:1][0] = 1 },
		func(f *api.RFn) { f.Blocks[0].Ins[0].K.L[1].L[0].N = 1 }, func(f *api.RFn) { f.Blocks[0].Ins[0].K.L[1].L[:2][1].S = "" },
	} {
		f := hand.Full(some())
		change(&f)
		if reflect.DeepEqual(hand.Everything(f), want) != (n == 0) {
			t.Error(n)
		}
	}
}

// What shares one list with another function, or with another list of its own, is told, spare room too.
func TestShares(t *testing.T) {
	if hand.Shares() || hand.Shares(some()) || hand.Shares(some(), some(), hand.Full(some())) {
		t.Error("shares")
	}
	for n, share := range []func(f, g *api.RFn){
		func(f, g *api.RFn) { g.Blocks = f.Blocks }, func(f, g *api.RFn) { g.Blocks = f.Blocks[2:] },
		func(f, g *api.RFn) { g.Blocks[1].Ins = f.Blocks[0].Ins[2:] }, func(f, g *api.RFn) { g.Blocks[1].Ins = f.Blocks[1].Ins },
		func(f, g *api.RFn) { g.Blocks[0].Ins[1].L = f.Blocks[0].Ins[1].L }, func(f, g *api.RFn) { g.Blocks[0].Ins[1].L = f.Blocks[0].Ins[1].L[1:] },
		func(f, g *api.RFn) { g.Blocks[0].Ins[2].L = g.Blocks[0].Ins[1].L },
		func(f, g *api.RFn) { g.Blocks[0].Ins[0].K = f.Blocks[0].Ins[0].K }, func(f, g *api.RFn) { g.Blocks[0].Ins[0].K.L[1].L = f.Blocks[0].Ins[0].K.L[1].L[1:] },
	} {
		f, g := hand.Full(some()), hand.Full(some())
		share(&f, &g)
		if !hand.Shares(f, g) {
			t.Error(n)
		}
	}
}
