package lift_test

import (
	"fmt"
	"math"
	"math/rand"
	"reflect"
	"slices"
	"strings"
	"sync"
	"testing"

	"ratline/api"
	"ratline/lift"
	"ratline/val"
)

// Promise 11.4, W9: every call ends and none panics, whatever it is given.

func TestRawPrograms(t *testing.T) {
	r := rand.New(rand.NewSource(114))
	far := []int{math.MinInt, math.MinInt + 1, -1 << 40, -65, -1, 0, 1, 2, 3, 8, 9, 10, 12, 13, 14, 64, 65, 1000, 4095, 4096, 1 << 40, math.MaxInt - 1, math.MaxInt}
	some := func() int { return far[r.Intn(len(far))] }
	for range 20000 {
		p := api.Prog{Main: r.Intn(2) * some(), Fns: make([]api.SFn, r.Intn(4))}
		for n := range p.Fns {
			f := api.SFn{Params: r.Intn(2) * some(), Locals: r.Intn(2)*some() + r.Intn(2), Consts: make([]api.Value, r.Intn(3)), Code: make([]api.SIns, r.Intn(6))}
			for i := range f.Code {
				f.Code[i] = api.SIns{Op: r.Intn(14), A: some(), B: r.Intn(2) * some()}
			}
			p.Fns[n] = f
		}
		expectRead(t, p)
		fn := some()
		lift.Leaders(p, fn)
		lift.Fn(p, fn)
	}
}

// A call of a function whose Params may not be, though B tells the same: the table is read as it stands.
func TestCallsOfOddFunctions(t *testing.T) {
	for params, want := range map[int]string{-1: "tick1; call1 3 []; ret 2", -5: "tick1; call1 7 []; ret 2", 0: "tick1; call1 2 []; ret 2"} {
		p := program(tick(1), call(1, params), ret())
		p.Fns[1].Params = params
		f, e := lift.Fn(p, 0)
		if got := tell(f); e != api.OK || got != want || f.Regs != 3 {
			t.Error(params, got, f.Regs, e)
		}
	}
	p := program(tick(1), call(1, math.MinInt), ret())
	p.Fns[1].Params = math.MinInt
	if f, e := lift.Fn(p, 0); e != api.OK || len(f.Blocks) != 1 || len(f.Blocks[0].Ins) != 2 || len(f.Blocks[0].Ins[1].L) != 0 {
		t.Error(f, e)
	}
	p = program(row(slices.Repeat(code(konst(0)), 64), code(tick(1), call(1, 64), ret()))...)
	p.Fns[1].Params = 64
	f, e := lift.Fn(p, 0)
	if e != api.OK || f.Regs != 66 || !slices.Equal(f.Blocks[0].Ins[65].L, upTo(2, 65)) || f.Blocks[0].Ins[65].D != 2 {
		t.Error(short(f), e)
	}
}

// The greatest functions that there are.
func TestGreatFunctions(t *testing.T) {
	// a block of each instruction, but for the one behind the STick
	ring := make([]api.SIns, 1000)
	for at := range ring {
		ring[at] = jump((at + 1) % 1000)
	}
	ring[500] = tick(1)
	p := api.Prog{Fns: []api.SFn{{Code: ring}}}
	f, e := lift.Fn(p, 0)
	if e != api.OK || f.Regs != 1 || len(f.Blocks) != 999 {
		t.Fatal(f.Regs, len(f.Blocks), e)
	}
	for n, b := range f.Blocks {
		if b.Term != (api.RTerm{Kind: api.TJump, To: (n + 1) % 999}) || len(b.Ins) != 0 && n != 500 {
			t.Fatal(n, b)
		}
	}
	// branches across the whole
	var l []api.SIns
	for at := range 499 {
		l = append(l, load(at%64), brz(998))
	}
	l = append(l, load(63), ret())
	p = api.Prog{Fns: []api.SFn{{Locals: 64, Code: l}}}
	if e := expectRead(t, p); e != api.OK {
		t.Error(e)
	}
	if f, _ := lift.Fn(p, 0); len(f.Blocks) != 500 {
		t.Error(len(f.Blocks))
	}
	// one block of 1,000
	p.Fns[0].Code = append(slices.Repeat(code(load(0), store(1)), 499), load(0), ret())
	if f, e := lift.Fn(p, 0); e != api.OK || len(f.Blocks) != 1 || len(f.Blocks[0].Ins) != 999 {
		t.Error(e)
	}
	// a constant as great as may be, taken as often as may be
	great := val.List(slices.Repeat(values(val.Int(7)), 999))
	often := api.SFn{Consts: values(great), Code: append(slices.Repeat(code(konst(0), pop()), 499), konst(0), ret())}
	p = api.Prog{Fns: slices.Repeat([]api.SFn{often}, 4)}
	q, e := lift.Program(p)
	if e != api.OK || len(q.Fns) != 4 || !val.Same(q.Fns[3].Blocks[0].Ins[499].K, great) {
		t.Error(e)
	}
}

// Constants that nobody takes, and as many as one likes.
func TestManyConstants(t *testing.T) {
	consts := slices.Repeat(values(val.List(values(val.Text("a")))), 1<<16)
	consts[1<<16-1] = val.Int(5)
	p := api.Prog{Fns: []api.SFn{{Consts: consts, Code: code(konst(1<<16-1), ret())}}}
	expect(t, p, 1, []int{0}, "const 0 = 5; ret 0")
}

// holdsItself is a list that has itself in it.
func holdsItself() api.Value {
	v := api.Value{Kind: api.VList, L: make([]api.Value, 2)}
	v.L[1] = v
	return v
}

func TestConstsThatAreNotOk(t *testing.T) {
	for _, v := range []api.Value{{Kind: 9}, {Kind: -1}, {N: 1}, {Kind: api.VInt, S: "a"}, {Kind: api.VCx, Z: complex(math.Inf(1), 0)}, val.Text("a"), holdsItself()} {
		p := program(konst(0), ret())
		p.Fns[0].Consts[1] = v
		if v.Kind == api.VText {
			v.S = strings.Repeat("x", 1000)
			p.Fns[0].Consts[1] = v
		}
		expectError(t, p, 0, api.ErrForm, api.ErrForm)
	}
}

// Rule 7: what a constant holds in fields that its kind leaves unused is not told.
func TestUnusedFieldsAreNotTold(t *testing.T) {
	minus := complex(math.Copysign(0, -1), math.Copysign(0, -1))
	for _, c := range []struct{ v, want api.Value }{
		{api.Value{Z: minus, L: make([]api.Value, 0, 4)}, val.Nil()},
		{api.Value{Kind: api.VInt, N: 3, Z: minus, L: make([]api.Value, 0, 4)}, val.Int(3)},
		{api.Value{Kind: api.VList, Z: minus, L: []api.Value{{Z: minus}}}, val.List(values(val.Nil()))},
	} {
		p := api.Prog{Fns: []api.SFn{{Consts: values(c.v), Code: code(konst(0), ret())}}}
		f, e := lift.Fn(p, 0)
		if e != api.OK {
			t.Fatal(c.v, e)
		}
		if k := f.Blocks[0].Ins[0].K; !reflect.DeepEqual(k, c.want) || math.Signbit(real(k.Z)) {
			t.Errorf("%#v, want %#v", k, c.want)
		}
	}
}

// Rules 3 and 8: what is handed in is not changed, nor kept; what is answered is new memory; the same call answers the same.

// full is a program with all instructions, constants that share lists, and spare room behind all lists.
func full() api.Prog {
	inner := val.List(values(val.Int(1), val.Int(2)))
	inner.L = append(inner.L, val.Text("spare"))[:2]
	outer := api.Value{Kind: api.VList, L: append(values(inner, inner, val.Text("a")), val.Int(77))[:3]}
	p := program(konst(0), store(0), konst(0), load(0), list(2), out(), konst(1), un(api.OLen), konst(0), bin(api.OPush), pop(), tick(1), call(3, 0), brz(17), konst(0), tick(2), jump(18), konst(0), konst(1), list(2), ret(), jump(3))
	p.Fns[0].Consts = append(values(outer, inner), val.Int(77))[:2]
	p.Fns[0].Code = append(p.Fns[0].Code, out(), pop())[:len(p.Fns[0].Code)]
	p.Fns = append(p.Fns, api.SFn{Name: "spare"})[:len(p.Fns)]
	return p
}

// everything is all that p has, spare room too.
func everything(p api.Prog) []any {
	l := []any{p.Main}
	var all func(v api.Value)
	all = func(v api.Value) {
		l = append(l, v, v.L[:cap(v.L)])
		for _, x := range v.L {
			all(x)
		}
	}
	for _, f := range p.Fns[:cap(p.Fns)] {
		l = append(l, f, f.Code[:cap(f.Code)], f.Consts[:cap(f.Consts)])
		for _, v := range f.Consts {
			all(v)
		}
	}
	return l
}

func TestNothingIsChanged(t *testing.T) {
	p, q := full(), full()
	if e := expectRead(t, p); e != api.OK {
		t.Fatal(e)
	}
	if !reflect.DeepEqual(everything(p), everything(q)) {
		t.Error("what was handed in is changed")
	}
	for seed := range 1000 {
		p, q := likelyProgram(rand.New(rand.NewSource(int64(seed))), 20), likelyProgram(rand.New(rand.NewSource(int64(seed))), 20)
		lift.Program(p)
		if !reflect.DeepEqual(everything(p), everything(q)) {
			t.Fatal("what was handed in is changed")
		}
	}
}

// places are where all things of lists stand, spare room too.
type places map[any]int

func (to places) value(v api.Value) {
	l := v.L[:cap(v.L)]
	for i := range l {
		to[&l[i]]++
		to.value(l[i])
	}
}

func (to places) fn(f api.RFn) {
	blocks := f.Blocks[:cap(f.Blocks)]
	for n := range blocks {
		to[&blocks[n]]++
		l := blocks[n].Ins[:cap(blocks[n].Ins)]
		for i := range l {
			to[&l[i]]++
			to.value(l[i].K)
			regs := l[i].L[:cap(l[i].L)]
			for k := range regs {
				to[&regs[k]]++
			}
		}
	}
}

// No two lists of an answer share memory, and none shares any with the program.
func TestAnswersAreNewMemory(t *testing.T) {
	p := full()
	to := places{}
	for _, f := range p.Fns {
		for _, v := range f.Consts {
			to.value(v)
		}
	}
	for place := range to { // the program's own lists may share what they like
		to[place] = 1
	}
	var answers []api.RProg
	for range 2 {
		q, e := lift.Program(p)
		if e != api.OK {
			t.Fatal(e)
		}
		answers = append(answers, q)
		for n := range q.Fns[:cap(q.Fns)] {
			to[&q.Fns[:cap(q.Fns)][n]]++
			to.fn(q.Fns[:cap(q.Fns)][n])
		}
		f, _ := lift.Fn(p, 0)
		to.fn(f)
		l, _ := lift.Leaders(p, 0)
		for i := range l[:cap(l)] {
			to[&l[:cap(l)][i]]++
		}
	}
	for _, n := range to {
		if n > 1 {
			t.Fatal("two lists share memory")
		}
	}
	if len(to) < 100 || !same(answers[0], answers[1]) {
		t.Error(len(to))
	}
}

// The same program is lifted to the same, whoever else calls.
func TestTheSameIsAnswered(t *testing.T) {
	r := rand.New(rand.NewSource(115))
	for range 200 {
		p := likelyProgram(r, 30)
		want, e := lift.Program(p)
		told := fmt.Sprint(want)
		var all sync.WaitGroup
		for range 4 {
			all.Go(func() {
				if q, wrong := lift.Program(p); wrong != e || fmt.Sprint(q) != told {
					t.Error(short(q), short(want))
				}
			})
		}
		all.Wait()
	}
}
