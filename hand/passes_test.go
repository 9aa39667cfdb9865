package hand_test

import (
	"reflect"
	"slices"
	"strings"
	"testing"

	"ratline/api"
	"ratline/blocks"
	"ratline/hand"
	"ratline/sim"
	"ratline/val"
)

func TestWordsOfBlocks(t *testing.T) {
	f := hand.Fn(0, 4,
		hand.Block(hand.Br(2, 1, 2), hand.Const(0, val.Int(2)), hand.Mov(1, 0), hand.Bin(api.OAdd, 2, 0, 1), hand.Un(api.ONeg, 3, 2)),
		hand.Block(hand.Jump(2), hand.Tick(7), hand.Call(0, 3, 1, 2), hand.List(3, 0, 1)),
		hand.Block(hand.Ret(3), hand.Out(3)),
		hand.Block(api.RTerm{Kind: 4}, api.RIns{Op: -1}, api.RIns{Op: 9}, api.RIns{}))
	if s := hand.Words(f); s != "kmbuB tclJ oR ----" || hand.Words(api.RFn{}) != "" {
		t.Error(s)
	}
}

func TestRow(t *testing.T) {
	make := func(k, next int) api.RBlock { return hand.Block(hand.Jump(next), hand.Out(k)) }
	for step, want := range map[int]string{
		1: "block 0\n6 0 0 0 0\n1 0 1 0\nblock 1\n6 0 1 0 0\n1 0 2 0\nblock 2\n6 0 2 0 0\n1 0 0 0\n",
		2: "block 0\n6 0 0 0 0\n1 0 2 0\nblock 1\n6 0 2 0 0\n1 0 0 0\nblock 2\n6 0 1 0 0\n1 0 1 0\n",
	} {
		if s := sim.Text(hand.Fn(0, 3, hand.Row(3, step, make)...)); s != want {
			t.Errorf("%d %q", step, s)
		}
	}
	if l := hand.Upto(3); !slices.Equal(l, []int{0, 1, 2}) || len(hand.Upto(0)) != 0 {
		t.Error(l)
	}
}

// puts is a program that puts out 1 and 2 and returns what its function makes of nothing.
func puts() api.RProg {
	main := hand.Fn(0, 1, hand.Block(hand.Ret(0), hand.Const(0, val.Int(1)), hand.Out(0), hand.Const(0, val.Int(2)), hand.Out(0), hand.Tick(1), hand.Call(1, 0)))
	return api.RProg{Fns: []api.RFn{main, hand.Fn(0, 1, hand.Block(hand.Ret(0), hand.Const(0, val.Int(3))))}}
}

func named(name string) hand.Pass {
	return func(f api.RFn) api.RFn { f.Name += name; return f }
}

func TestOthers(t *testing.T) {
	var names []string
	for _, p := range hand.Others(puts(), named("a"), named("b")) {
		names = append(names, p.Fns[0].Name+p.Fns[1].Name)
	}
	if s := strings.Join(names, " "); s != "fafa faf ffa fbfb fbf ffb" {
		t.Error(s)
	}
}

// A program that tells one thing otherwise, whatever the fuel is by which that is seen, or that is not sound, is told.
func TestOtherwise(t *testing.T) {
	var n hand.Tried
	if s := n.Otherwise(puts(), puts(), puts()); s != "" || n != (hand.Tried{Programs: 1, Runs: 4, Ends: 1, Fuel: 3}) {
		t.Error(s, n)
	}
	for k, change := range []func(p *api.RProg){
		func(p *api.RProg) { p.Fns[0].Blocks[0].Ins[0].K.N = 2 },
		func(p *api.RProg) { p.Fns[0].Blocks[0].Ins[2].K.N = 1 },
		func(p *api.RProg) { p.Fns[0].Blocks[0].Ins[4].N = 2 },
		func(p *api.RProg) { p.Fns[1].Blocks[0].Ins[0].K.N = 1 },
		func(p *api.RProg) { p.Fns[1].Blocks[0].Ins[0].Op = 9 },
	} {
		p := puts()
		change(&p)
		if s := new(hand.Tried).Otherwise(puts(), puts(), p); !strings.HasPrefix(s, "the program 1 of others") {
			t.Error(k, s)
		}
		new(hand.Tried).Otherwise(p, puts())
	}
	wrong := puts()
	wrong.Main = 2
	if s := n.Otherwise(wrong, puts()); s != "" || n.Programs != 1 {
		t.Error(s, n)
	}
	wrong = puts()
	wrong.Fns[0].Blocks[0].Ins[2] = hand.Un(api.OLen, 0, 0)
	if s := n.Otherwise(wrong, wrong); s != "" || n != (hand.Tried{Programs: 2, Runs: 6, Ends: 1, Errs: 1, Fuel: 4}) {
		t.Error(s, n)
	}
}

// What a pass does to memory that it may not is told.
func TestTouched(t *testing.T) {
	if s := hand.Touched(some(), reflect.DeepEqual, blocks.Own, blocks.Own); s != "" {
		t.Error(s)
	}
	var kept api.RFn
	for n, pass := range []hand.Pass{
		func(f api.RFn) api.RFn { return f },
		func(f api.RFn) api.RFn { f = blocks.Own(f); f.Blocks[0].Ins = f.Blocks[0].Ins[:1]; return f },
		func(f api.RFn) api.RFn { g := blocks.Own(f); g.Blocks[0].Ins[0].K = f.Blocks[0].Ins[0].K; return g },
		func(f api.RFn) api.RFn { g := blocks.Own(f); g.Blocks[0].Ins[1].L = f.Blocks[0].Ins[1].L; return g },
		func(f api.RFn) api.RFn { f.Blocks[0].Ins[1].L[0] = 3; return blocks.Own(f) },
		func(f api.RFn) api.RFn { f.Blocks[:len(f.Blocks)+1][len(f.Blocks)].Term.To = 3; return blocks.Own(f) },
		func(f api.RFn) api.RFn { f.Blocks[0].Ins[0].K.L[0].N++; return blocks.Own(f) },
		func(f api.RFn) api.RFn { g := blocks.Own(f); g.Blocks[0].Ins[2].L = g.Blocks[0].Ins[1].L; return g },
		func(f api.RFn) api.RFn {
			if kept.Blocks == nil {
				kept = blocks.Own(f)
			}
			return kept
		},
	} {
		if s := hand.Touched(some(), reflect.DeepEqual, pass, blocks.Own); (s == "") != (n == 1) {
			t.Error(n, s)
		}
	}
}

func TestUnlike(t *testing.T) {
	if hand.Unlike(some(), reflect.DeepEqual, blocks.Own, blocks.Own) {
		t.Error("unlike")
	}
	room := func(f api.RFn) api.RFn { f.Regs = cap(f.Blocks); return f }
	if !hand.Unlike(some(), reflect.DeepEqual, blocks.Own, room) {
		t.Error("alike")
	}
}

// A change of a program is held as one of its functions is, and by what it does to the list of them.
func TestTouchedAll(t *testing.T) {
	own := func(p api.RProg) api.RProg { return hand.Mapped(p, blocks.Own) }
	two := api.RProg{Fns: []api.RFn{some(), some()}, Main: 1}
	if s := hand.TouchedAll(two, reflect.DeepEqual, own, own); s != "" {
		t.Error(s)
	}
	for n, change := range []hand.Change{
		func(p api.RProg) api.RProg { p.Fns[1].Name = "g"; return own(p) },
		func(p api.RProg) api.RProg { p.Fns[:3][2].Name = "g"; return own(p) },
		func(p api.RProg) api.RProg { p.Fns[1] = blocks.Own(p.Fns[1]); p.Fns[0] = own(p).Fns[0]; return p },
		func(p api.RProg) api.RProg { q := own(p); q.Fns[1] = q.Fns[0]; return q },
		func(p api.RProg) api.RProg {
			q := own(p)
			q.Fns[1].Blocks[0].Ins[0].K = q.Fns[0].Blocks[0].Ins[0].K
			return q
		},
	} {
		if hand.TouchedAll(two, reflect.DeepEqual, own, change) == "" {
			t.Error(n)
		}
	}
}

func TestUnlikeAll(t *testing.T) {
	own := func(p api.RProg) api.RProg { return hand.Mapped(p, blocks.Own) }
	two := api.RProg{Fns: []api.RFn{some(), some()}, Main: 1}
	if hand.UnlikeAll(two, reflect.DeepEqual, own, own) {
		t.Error("unlike")
	}
	for n, change := range []hand.Change{
		func(p api.RProg) api.RProg { p.Main = cap(p.Fns); return p },
		func(p api.RProg) api.RProg { q := own(p); q.Fns[1].Regs = cap(p.Fns[1].Blocks); return q },
	} {
		if !hand.UnlikeAll(two, reflect.DeepEqual, own, change) {
			t.Error(n, "alike")
		}
	}
}
