package blocks_test

import (
	"math"
	"math/rand"
	"reflect"
	"testing"

	"ratline/api"
	"ratline/blocks"
	"ratline/hand"
	"ratline/likely"
	"ratline/val"
)

// A function of its own means the same, in memory of its own; a K that is not Ok is nil.
func TestOwn(t *testing.T) {
	r := rand.New(rand.NewSource(165))
	for range 1000 {
		f := likely.Registers(r.Intn, 7).Fns[0]
		if g := blocks.Own(f); !reflect.DeepEqual(hand.Plain(g), hand.Plain(f)) {
			t.Fatal(f, g)
		}
		if s := hand.Touched(f, reflect.DeepEqual, blocks.Own, blocks.Own); s != "" {
			t.Fatal(s, f)
		}
	}
	for _, v := range likely.OddValues() {
		f := hand.Fn(1, 2, hand.Block(hand.Ret(0), hand.Const(0, v), api.RIns{Op: 77, K: v}))
		for _, i := range blocks.Own(f).Blocks[0].Ins {
			if !reflect.DeepEqual(i.K, val.Copy(v)) {
				t.Error(i)
			}
		}
	}
	if f := blocks.Own(api.RFn{}); !reflect.DeepEqual(f, api.RFn{}) {
		t.Error(f)
	}
}

// What an Ins reads is told anew, once each; what it writes, and what is no register, stays.
func TestRead(t *testing.T) {
	behind := func(r int) int { return r + 10 }
	all := api.RIns{D: 1, A: 2, B: 3, N: 4, Deep: 5, K: val.Int(6)}
	for op, want := range map[int]api.RIns{
		api.RConst: {A: 2, B: 3, L: []int{7, 8, 7}}, api.RMov: {A: 12, B: 3, L: []int{7, 8, 7}}, api.RBin: {A: 12, B: 13, L: []int{7, 8, 7}}, api.RUn: {A: 12, B: 3, L: []int{7, 8, 7}},
		api.RCall: {A: 2, B: 3, L: []int{17, 18, 17}}, api.ROut: {A: 12, B: 3, L: []int{7, 8, 7}}, api.RTick: {A: 2, B: 3, L: []int{7, 8, 7}}, api.RList: {A: 2, B: 3, L: []int{17, 18, 17}},
		0: {A: 2, B: 3, L: []int{7, 8, 7}}, 9: {A: 2, B: 3, L: []int{7, 8, 7}}, -1: {A: 2, B: 3, L: []int{7, 8, 7}}, math.MaxInt: {A: 2, B: 3, L: []int{7, 8, 7}},
	} {
		i := all
		i.Op, i.L = op, []int{7, 8, 7}
		want.Op, want.D, want.N, want.Deep, want.K = op, 1, 4, 5, val.Int(6)
		if blocks.Read(&i, behind); !reflect.DeepEqual(i, want) {
			t.Error(i, want)
		}
	}
}

func TestLed(t *testing.T) {
	behind := func(n int) int { return n + 10 }
	for _, x := range []struct{ end, want api.RTerm }{
		{hand.Jump(3), hand.Jump(13)}, {hand.Br(5, 3, 4), hand.Br(5, 13, 14)}, {hand.Br(5, 3, 3), hand.Br(5, 13, 13)}, {hand.Jump(-30), hand.Jump(-20)},
		{hand.Ret(3), hand.Ret(3)}, {api.RTerm{}, api.RTerm{}},
		{api.RTerm{Kind: api.TJump, A: 1, To: 2, Else: 3}, api.RTerm{Kind: api.TJump, A: 1, To: 12, Else: 3}},
		{api.RTerm{Kind: api.TRet, A: 1, To: 2, Else: 3}, api.RTerm{Kind: api.TRet, A: 1, To: 2, Else: 3}},
		{api.RTerm{Kind: 4, A: 1, To: 2, Else: 3}, api.RTerm{Kind: 4, A: 1, To: 2, Else: 3}},
	} {
		if end := blocks.Led(x.end, behind); end != x.want {
			t.Error(x.end, end, x.want)
		}
	}
}

func TestMove(t *testing.T) {
	l := []api.RBlock{hand.Block(hand.Jump(2)), hand.Block(hand.Br(1, 0, 3)), hand.Block(hand.Br(1, -1, math.MaxInt)), hand.Block(hand.Jump(4)), hand.Block(hand.Ret(2), hand.Out(2))}
	blocks.Move(l, []int{1, 9, 0, 7})
	want := []api.RBlock{hand.Block(hand.Jump(0)), hand.Block(hand.Br(1, 1, 7)), hand.Block(hand.Br(1, -1, math.MaxInt)), hand.Block(hand.Jump(4)), hand.Block(hand.Ret(2), hand.Out(2))}
	if !reflect.DeepEqual(l, want) {
		t.Error(l)
	}
}

func TestHas(t *testing.T) {
	for n, want := range map[int]bool{-1: false, 0: true, 1: true, 2: false, math.MinInt: false, math.MaxInt: false} {
		if blocks.Has([]int{5, 6}, n) != want || blocks.Has([]string(nil), n) {
			t.Error(n)
		}
	}
}
