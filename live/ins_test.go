package live_test

import (
	"fmt"
	"math"
	"slices"
	"testing"

	"ratline/api"
	"ratline/hand"
	"ratline/live"
	"ratline/ops"
	"ratline/val"
)

var (
	mov, bin, un, call, list = hand.Mov, hand.Bin, hand.Un, hand.Call, hand.List
	out, tick, jump, br, ret = hand.Out, hand.Tick, hand.Jump, hand.Br, hand.Ret
	code, block              = hand.Code, hand.Block
)

func konst(d int) api.RIns { return hand.Const(d, val.Int(7)) }

func fn(regs int, l ...api.RBlock) api.RFn { return hand.Fn(0, regs, l...) }

// upTo are the numbers from a up to b.
func upTo(a, b int) []int {
	var l []int
	for n := a; n <= b; n++ {
		l = append(l, n)
	}
	return l
}

// short is what is told of a thing that may be great.
func short(x any) string {
	s := fmt.Sprint(x)
	if len(s) > 900 {
		s = s[:900] + " .."
	}
	return s
}

// Promise 13.1: Uses, Def, Ends, Pure.

func expectIns(t *testing.T, i api.RIns, uses string, def int) {
	t.Helper()
	if l := live.Uses(i); fmt.Sprint(l) != uses {
		t.Errorf("Uses of %s: %s, want %s", short(i), short(l), short(uses))
	}
	if d := live.Def(i); d != def {
		t.Errorf("Def of %s: %d, want %d", short(i), d, def)
	}
}

// Each Op by itself, with all fields filled: what an Op does not have is not read, nor written.
func TestEachOp(t *testing.T) {
	want := map[int]struct {
		uses string
		def  int
	}{
		api.RConst: {"[]", 9}, api.RMov: {"[8]", 9}, api.RBin: {"[7 8]", 9}, api.RUn: {"[8]", 9},
		api.RCall: {"[3 5 6]", 9}, api.ROut: {"[8]", -1}, api.RTick: {"[]", -1}, api.RList: {"[3 5 6]", 9},
	}
	for _, op := range append(upTo(-3, 70), math.MinInt, math.MaxInt, 1<<32+api.RMov) {
		w, is := want[op]
		if !is {
			w.uses, w.def = "[]", -1
		}
		i := api.RIns{Op: op, D: 9, A: 8, B: 7, N: api.OEq, Deep: 4, K: val.Int(2), L: []int{6, 3, 5, 3}}
		expectIns(t, i, w.uses, w.def)
		for _, n := range append(upTo(-1, 21), math.MinInt, math.MaxInt) {
			i.N = n
			expectIns(t, i, w.uses, w.def)
		}
		i.K, i.Deep = api.Value{Kind: 77}, -5
		expectIns(t, i, w.uses, w.def)
	}
}

// What is read twice is told once, what is read and written by one is both.
func TestUsesOnceAndRising(t *testing.T) {
	expectIns(t, bin(api.OAdd, 1, 5, 5), "[5]", 1)
	expectIns(t, bin(api.OAdd, 1, 5, 2), "[2 5]", 1)
	expectIns(t, bin(api.OAdd, 1, 2, 5), "[2 5]", 1)
	expectIns(t, bin(api.OAdd, 5, 5, 5), "[5]", 5)
	expectIns(t, bin(api.OAdd, 2, 5, 2), "[2 5]", 2)
	expectIns(t, bin(api.OAdd, 0, 0, 0), "[0]", 0)
	expectIns(t, mov(4, 4), "[4]", 4)
	expectIns(t, un(api.ONeg, 4, 4), "[4]", 4)
	expectIns(t, call(0, 7, 7, 1, 7), "[1 7]", 7)
	expectIns(t, list(7, 1, 7, 7), "[1 7]", 7)
	for _, make := range []func(int, ...int) api.RIns{list, func(d int, l ...int) api.RIns { return call(3, d, l...) }} {
		for _, c := range []struct {
			l    []int
			want string
		}{
			{nil, "[]"}, {[]int{}, "[]"}, {make(0, 1, 2).L[:0], "[]"}, {[]int{0}, "[0]"}, {[]int{0, 0, 0}, "[0]"},
			{[]int{1, 2, 3}, "[1 2 3]"}, {[]int{3, 2, 1}, "[1 2 3]"}, {[]int{3, 1, 3, 2, 1}, "[1 2 3]"}, {[]int{199, 0, 128, 64, 127, 63}, "[0 63 64 127 128 199]"},
		} {
			expectIns(t, make(6, c.l...), c.want, 6)
		}
		falling := upTo(0, 199)
		slices.Reverse(falling)
		expectIns(t, make(0, append(falling, falling...)...), fmt.Sprint(upTo(0, 199)), 0)
	}
}

// The registers at the edges of words, and numbers that no register has: an Ins by itself tells them as they are.
func TestEdgesOfRegisters(t *testing.T) {
	for _, r := range []int{0, 1, 62, 63, 64, 65, 127, 128, 191, 192, 198, 199, 200, 255, 256, -1, -5, 1 << 40, math.MinInt, math.MaxInt} {
		one := fmt.Sprint([]int{r})
		expectIns(t, konst(r), "[]", r)
		expectIns(t, mov(r, r), one, r)
		expectIns(t, mov(3, r), one, 3)
		expectIns(t, un(api.OLen, r, r), one, r)
		expectIns(t, bin(api.OSub, r, r, r), one, r)
		expectIns(t, bin(api.OSub, r, r, 3), fmt.Sprint([]int{min(r, 3), max(r, 3)}), r)
		expectIns(t, bin(api.OSub, r, 3, r), fmt.Sprint([]int{min(r, 3), max(r, 3)}), r)
		expectIns(t, call(0, r, r), one, r)
		expectIns(t, list(r, r, r), one, r)
		expectIns(t, out(r), one, -1)
		for _, kind := range []int{api.TBr, api.TRet} {
			if l := live.Ends(api.RTerm{Kind: kind, A: r, To: 1, Else: 2}); fmt.Sprint(l) != one {
				t.Error(kind, r, l)
			}
		}
	}
	expectIns(t, list(0, math.MaxInt, -1, math.MinInt, 200, -1), fmt.Sprint([]int{math.MinInt, -1, 200, math.MaxInt}), 0)
}

func TestEachEnd(t *testing.T) {
	for _, kind := range append(upTo(-3, 70), math.MinInt, math.MaxInt, 1<<32+api.TRet) {
		for _, a := range []int{0, 5, 63, 64, 199} {
			want := "[]"
			if kind == 2 || kind == 3 {
				want = fmt.Sprint([]int{a})
			}
			for _, to := range []int{0, 1, 77} {
				if l := live.Ends(api.RTerm{Kind: kind, A: a, To: to, Else: 3}); fmt.Sprint(l) != want {
					t.Error(kind, a, to, l)
				}
			}
		}
	}
}

// Each Op with each op and with numbers that are none.
func TestPure(t *testing.T) {
	total := 0
	for _, op := range append(upTo(-3, 70), math.MinInt, math.MaxInt) {
		for _, n := range append(upTo(-3, 70), math.MinInt, math.MaxInt, 1<<32+api.OEq) {
			want := op == 1 || op == 2 || (op == 3 || op == 4) && (n == 6 || n == 7 || n == 16)
			for _, i := range code(api.RIns{Op: op, N: n}, api.RIns{Op: op, N: n, D: 1, A: 2, B: 3, Deep: 1, L: []int{1}}, api.RIns{Op: op, N: n, D: -1, A: -1, K: api.Value{Kind: 9}}) {
				if live.Pure(i) != want {
					t.Errorf("Pure of %v: %t", i, !want)
				}
			}
			if want && ops.Total(n) {
				total++
			}
		}
	}
	if total != 4*3 {
		t.Error(total)
	}
	for op := api.OAdd; op <= api.OConj; op++ {
		i := api.RIns{Op: api.RBin, N: op}
		if ops.Arity(op) == 1 {
			i.Op = api.RUn
		}
		if want := slices.Contains([]string{"==", "!=", "!"}, ops.Name(op)); live.Pure(i) != want {
			t.Error(ops.Name(op), !want)
		}
	}
}
