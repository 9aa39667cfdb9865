package live_test

import (
	"fmt"
	"math"
	"math/rand"
	"reflect"
	"slices"
	"sync"
	"testing"

	"ratline/api"
	"ratline/hand"
	"ratline/likely"
	"ratline/live"
	"ratline/sim"
)

// Promise 13.3, W9, W10: every call ends and none panics, whatever it is given.

func TestRawFunctions(t *testing.T) {
	r := rand.New(rand.NewSource(135))
	far := []int{math.MinInt, math.MinInt + 1, -1 << 40, -65, -64, -1, 0, 0, 0, 1, 1, 2, 3, 63, 64, 127, 128, 199, 200, 255, 256, 1 << 32, 1 << 40, math.MaxInt - 1, math.MaxInt}
	some := func() int { return far[r.Intn(len(far))] }
	maybe := func() int { return r.Intn(2) * some() }
	for range 20000 {
		f := api.RFn{Params: some(), Regs: some(), Blocks: make([]api.RBlock, r.Intn(4))}
		for k := range f.Blocks {
			f.Blocks[k].Term = api.RTerm{Kind: r.Intn(5), A: some(), To: maybe(), Else: maybe()}
			for range r.Intn(4) {
				i := api.RIns{Op: r.Intn(10), D: some(), A: some(), B: some(), N: some(), Deep: maybe(), K: api.Value{Kind: maybe(), N: 1}}
				for range r.Intn(4) {
					i.L = append(i.L, some())
				}
				f.Blocks[k].Ins = append(f.Blocks[k].Ins, i)
			}
		}
		expectRead(t, f)
		if n := some(); n < 0 || n >= len(f.Blocks) {
			if l := live.At(f, n); len(l) != 0 {
				t.Fatal(n, l)
			}
		}
	}
}

// A register that is none is live nowhere, and does not stand for another one.
func TestRegistersThatAreNone(t *testing.T) {
	for _, r := range []int{-1, -64, -65, 200, 255, 256, 1 << 32, 1 << 40, math.MinInt, math.MaxInt} {
		f := fn(200, block(br(r, 0, 0), konst(r), mov(5, r), list(r, r, 7), out(r)))
		if s := fmt.Sprint(live.At(f, 0)); s != "[[7] [7] [7] [7] [7]]" {
			t.Error(r, s)
		}
		f = fn(200, block(jump(1), readsAll()...), block(ret(199), konst(r)))
		if s := fmt.Sprint(live.In(f)); s != fmt.Sprint([][]int{upTo(0, 199), {199}}) {
			t.Error(r, s)
		}
	}
}

// A block that is none is not led to.
func TestBlocksThatAreNone(t *testing.T) {
	for _, to := range []int{-1, 2, 64, 2000, 1 << 32, math.MinInt, math.MaxInt} {
		expect(t, fn(9, block(br(3, to, 1)), block(ret(4))), "[[3 4] [4]]", "[[4] []]")
		expect(t, fn(9, block(br(3, 1, to)), block(ret(4))), "[[3 4] [4]]", "[[4] []]")
		expect(t, fn(9, block(br(3, to, to)), block(ret(4))), "[[3] [4]]", "[[] []]")
		expect(t, fn(9, block(jump(to)), block(ret(4))), "[[] [4]]", "[[] []]")
	}
	for _, kind := range []int{-1, 0, 4, 99} {
		expect(t, fn(9, block(api.RTerm{Kind: kind, A: 3, To: 1, Else: 1}), block(ret(4))), "[[] [4]]", "[[] []]")
	}
}

// isSound asks that a function that is made great is still one that may be.
func isSound(t *testing.T, f api.RFn) {
	t.Helper()
	if e := sim.Check(api.RProg{Fns: []api.RFn{f}}); e != api.OK {
		t.Fatal(e)
	}
}

// Of 2,000 blocks, in a row from the first to the last, and from the last back to the second.
func TestLongRows(t *testing.T) {
	ahead, back := fn(200, make([]api.RBlock, 2000)...), fn(200, make([]api.RBlock, 2000)...)
	for n := range 2000 {
		ahead.Blocks[n] = block(jump(min(n+1, 1999)))
		back.Blocks[n] = block(jump((n + 1999) % 2000))
	}
	ahead.Blocks[1999], back.Blocks[1] = block(ret(0), readsAll()...), block(ret(0), readsAll()...)
	for _, f := range []api.RFn{ahead, back} {
		isSound(t, f)
		for n, l := range live.In(f) {
			if !slices.Equal(l, upTo(0, 199)) {
				t.Fatal(n, l)
			}
		}
		for n, l := range live.Out(f) {
			if (len(l) == 0) != (f.Blocks[n].Term.Kind == api.TRet) || len(l)%200 != 0 {
				t.Fatal(n, l)
			}
		}
	}
	back.Blocks[1000].Ins = code(konst(64))
	isSound(t, back)
	for n, l := range live.In(back) {
		if slices.Contains(l, 64) != (n > 0 && n < 1000) || len(l) < 199 {
			t.Fatal(n, l)
		}
	}
}

// A ring of 2,000 blocks: each register is read at one place and written five blocks behind it, so that it is live everywhere but between them.
func TestLongRing(t *testing.T) {
	for _, step := range []int{1, 1999, 7, 1001} {
		f := fn(200, make([]api.RBlock, 2000)...)
		for k := range 2000 {
			b := block(jump((k + 1) * step % 2000))
			switch r := k / 10; k % 10 {
			case 0:
				b.Ins = code(out(r), tick(1))
			case 5:
				b.Ins = code(konst(r))
			}
			f.Blocks[k*step%2000] = b
		}
		isSound(t, f)
		in := live.In(f)
		for k := range 2000 {
			want := slices.DeleteFunc(upTo(0, 199), func(r int) bool { return k > 10*r && k <= 10*r+5 })
			if !slices.Equal(in[k*step%2000], want) {
				t.Fatal(step, k, in[k*step%2000])
			}
		}
	}
}

// Branches across 2,000 blocks: some of them are read a second time.
func TestManyBranches(t *testing.T) {
	r := rand.New(rand.NewSource(136))
	f := fn(200, make([]api.RBlock, 2000)...)
	for n := range f.Blocks {
		f.Blocks[n] = block(br(r.Intn(200), r.Intn(2000), r.Intn(2000)), tick(1), konst(r.Intn(200)), konst(r.Intn(200)), konst(r.Intn(200)))
		if r.Intn(9) == 0 {
			f.Blocks[n].Term = ret(r.Intn(200))
		}
	}
	isSound(t, f)
	in, behind := live.In(f), live.Out(f)
	for _, n := range []int{0, 1, 777, 1998, 1999} {
		if want := readAt(f, upTo(0, 199), place{n, 0}); !slices.Equal(in[n], want) || len(want) == 0 {
			t.Error(n, in[n], want)
		}
		if want := readOut(f, upTo(0, 199), n); !slices.Equal(behind[n], want) {
			t.Error(n, behind[n], want)
		}
		if l := live.At(f, n); len(l) != len(f.Blocks[n].Ins)+1 || !slices.Equal(l[0], in[n]) {
			t.Error(n, l)
		}
	}
}

// The longest block that there is, with all registers live all along.
func TestLongestBlock(t *testing.T) {
	l := slices.Concat(slices.Repeat(code(out(77)), 13795), readsAll())
	f := fn(200, block(ret(0), l...))
	isSound(t, f)
	at := live.At(f, 0)
	if len(at) != 13800 {
		t.Fatal(len(at))
	}
	for n := range 13796 {
		if !slices.Equal(at[n], upTo(0, 199)) {
			t.Fatal(n, at[n])
		}
	}
	if s := fmt.Sprint(at[13796:]); s != fmt.Sprint([][]int{upTo(64, 199), upTo(128, 199), upTo(192, 199), {0}}) {
		t.Error(s)
	}
}

// What is far longer than may be ends too.
func TestTooLong(t *testing.T) {
	long := list(3, make([]int, 1<<22)...)
	for n := range long.L {
		long.L[n] = 1<<22 - n
	}
	if l := live.Uses(long); len(l) != 1<<22 || l[0] != 1 || l[1<<22-1] != 1<<22 {
		t.Error(len(l))
	}
	f := fn(200, block(ret(3), long))
	if l := live.In(f); !slices.Equal(l[0], upTo(1, 199)) {
		t.Error(l)
	}
	f = fn(200, block(ret(3), make([]api.RIns, 1<<18)...))
	if l := live.At(f, 0); len(l) != 1<<18+1 || len(l[0]) != 1 || len(l[1<<18]) != 1 {
		t.Error(len(l))
	}
	f = fn(200, make([]api.RBlock, 1<<18)...)
	for n := range f.Blocks {
		f.Blocks[n] = block(br(n%200, (n+1)%(1<<18), n*n%(1<<18)), konst((n+1)%200))
	}
	if l := live.In(f); len(l) != 1<<18 || len(l[5]) == 0 {
		t.Error(len(l))
	}
}

// A value that holds itself is not looked into.
func TestValuesThatHoldThemselves(t *testing.T) {
	v := api.Value{Kind: api.VList, L: make([]api.Value, 2)}
	v.L[1] = v
	i := api.RIns{Op: api.RConst, D: 3, K: v}
	if len(live.Uses(i)) != 0 || live.Def(i) != 3 || !live.Pure(i) {
		t.Error(live.Def(i))
	}
	if s := fmt.Sprint(live.At(fn(9, block(ret(3), out(4), i)), 0)); s != "[[4] [] [3]]" {
		t.Error(s)
	}
}

// Rules 3 and 8: what is handed in is not changed, nor kept; what is answered is new memory; the same call answers the same.

// answers are all lists that all calls answer of f.
func answers(f api.RFn) [][][]int {
	all := [][][]int{live.In(f), live.Out(f), live.At(f, -1), live.At(f, len(f.Blocks))}
	for n, b := range f.Blocks {
		all = append(all, live.At(f, n))
		for _, i := range b.Ins {
			all = append(all, [][]int{live.Uses(i), {live.Def(i)}})
		}
		all = append(all, [][]int{live.Ends(b.Term)})
	}
	return all
}

// some is a function with lists that fall and have doubles.
func some() api.RFn {
	return fn(9, block(br(4, 1, 2), list(4, 3, 2, 1, 2), tick(1), call(0, 5, 8, 7, 8)), block(jump(0), bin(api.OAdd, 1, 6, 5)), block(ret(0), list(0, 4, 4, 4)))
}

func TestNothingIsChanged(t *testing.T) {
	p, q := hand.Full(some()), hand.Full(some())
	answers(p)
	if !reflect.DeepEqual(hand.Everything(p), hand.Everything(q)) {
		t.Error("what was handed in is changed")
	}
	for seed := range int64(2000) {
		p, q := likely.Registers(rand.New(rand.NewSource(seed)).Intn, 7), likely.Registers(rand.New(rand.NewSource(seed)).Intn, 7)
		for n := range p.Fns {
			f, g := hand.Full(p.Fns[n]), hand.Full(q.Fns[n])
			answers(f)
			if !reflect.DeepEqual(hand.Everything(f), hand.Everything(g)) {
				t.Fatal("what was handed in is changed")
			}
		}
	}
}

// No two lists of answers share memory, spare room too, and none shares any with the function.
func TestAnswersAreNewMemory(t *testing.T) {
	f := hand.Full(some())
	to := map[*int]int{}
	add := func(l []int) {
		l = l[:cap(l)]
		for n := range l {
			to[&l[n]]++
		}
	}
	for _, b := range f.Blocks {
		for _, i := range b.Ins {
			add(i.L)
		}
	}
	before := hand.Everything(hand.Full(some()))
	first, second := answers(f), answers(f)
	for _, l := range append(slices.Clone(first), second...) {
		for _, x := range l[:cap(l)] {
			add(x)
		}
	}
	for _, n := range to {
		if n > 1 {
			t.Fatal("two lists share memory")
		}
	}
	if len(to) < 100 {
		t.Error(len(to))
	}
	for _, l := range first {
		for _, x := range l {
			for n := range x[:cap(x)] {
				x[:cap(x)][n] = -77
			}
		}
	}
	if !reflect.DeepEqual(hand.Everything(f), before) || fmt.Sprint(answers(f)) != fmt.Sprint(second) {
		t.Error("what was answered is kept")
	}
}

// The same call answers the same, whoever else calls, and whatever room stands behind its lists.
func TestTheSameIsTold(t *testing.T) {
	r := rand.New(rand.NewSource(137))
	for range 300 {
		f := likely.Registers(r.Intn, 7).Fns[0]
		want := fmt.Sprint(answers(f))
		var all sync.WaitGroup
		for n := range 4 {
			all.Go(func() {
				g := f
				if n%2 == 1 {
					g = hand.Full(f)
				}
				if s := fmt.Sprint(answers(g)); s != want {
					t.Error(short(f), s, want)
				}
			})
		}
		all.Wait()
	}
}
