package svm_test

import (
	"math"
	"math/rand"
	"reflect"
	"slices"
	"strings"
	"sync"
	"testing"

	"ratline/api"
	"ratline/svm"
	"ratline/val"
)

// W9: raw code that no text is laid as means what its instructions say.

func TestRawCode(t *testing.T) {
	one := values(val.Int(1), val.Int(0))
	for _, c := range []struct {
		fuel int
		code []api.SIns
		want string
	}{
		// a loop whose stack is never empty, one into whose middle is jumped, one whose STick stands first
		{9, code(konst(0), tick(1), konst(0), bin(api.OAdd), load(0), un(api.ONot), brz(10), konst(0), store(0), jump(1), ret()), "t1 t1 = 3 0"},
		{9, code(jump(3), konst(0), out(), tick(2), load(1), konst(0), store(1), brz(1), konst(1), ret()), "t2 1 t2 = 0 0"},
		{3, code(tick(7), jump(0)), "t7 t7 t7 = nil 6"},
		// many ticks and outputs behind each other, a call with more ticks ahead of it
		{9, code(tick(3), tick(2), tick(1), konst(0), tick(9), call(0, 1), ret()), "t3 t2 t1 t9 = [1, 1] 0"},
		{9, code(konst(0), konst(1), konst(0), out(), out(), out(), konst(1), ret()), "1 0 1 = 0 0"},
		// two ways that meet above other values
		{9, code(konst(0), load(0), brz(5), konst(0), jump(6), konst(1), list(2), ret()), "= [1, 0] 0"},
		// returns in many places, and jumps over what is not come to
		{9, code(load(2), brz(4), konst(0), ret(), jump(7), pop(), pop(), konst(1), ret()), "= 0 0"},
		// a jump to main's first instruction, where the locals stay as they are
		{9, code(load(0), brz(4), load(0), ret(), konst(0), store(0), tick(1), jump(0)), "t1 = 1 0"},
		// a call whose answer decides
		{9, code(tick(1), call(3, 0), brz(5), konst(0), ret(), konst(1), ret()), "t1 5 = 0 0"},
		// ops that no text writes so
		{9, code(konst(0), konst(1), bin(api.OCx), un(api.OConj), un(api.ORe), ret()), "= <3ff0000000000000,0000000000000000> 0"},
	} {
		expect(t, program(one, c.code...), c.fuel, c.want)
	}
}

// Names are not asked.
func TestNamesMeanNothing(t *testing.T) {
	for _, name := range []string{"", "main", "x y", "\xff", strings.Repeat("x", 1<<20)} {
		p := program(values(val.Int(1)), konst(0), tick(1), call(0, 1), ret())
		for i := range p.Fns {
			p.Fns[i].Name = name
		}
		expect(t, p, 1, "t1 = [1, 1] 0")
	}
}

// Constants that nobody takes, and as many as one likes.
func TestManyConstants(t *testing.T) {
	consts := slices.Repeat(values(val.List(values(val.Text("a")))), 1<<16)
	consts[1<<16-1] = val.Int(5)
	expect(t, program(consts, konst(1<<16-1), ret()), 0, "= 5 0")
}

func TestRawPrograms(t *testing.T) {
	r := rand.New(rand.NewSource(93))
	far := []int{math.MinInt, math.MinInt + 1, -1 << 40, -65, -1, 0, 1, 2, 3, 8, 9, 10, 12, 13, 14, 64, 65, 1000, 4095, 4096, 1 << 40, math.MaxInt - 1, math.MaxInt}
	some := func() int { return far[r.Intn(len(far))] }
	for range 20000 {
		p := api.Prog{Main: r.Intn(2) * some(), Fns: make([]api.SFn, r.Intn(4))}
		for n := range p.Fns {
			f := api.SFn{Params: r.Intn(2) * some(), Locals: r.Intn(2)*some() + r.Intn(2), Consts: make([]api.Value, r.Intn(3)), Code: make([]api.SIns, r.Intn(6))}
			for i := range f.Code {
				f.Code[i] = api.SIns{Op: r.Intn(14), A: some(), B: r.Intn(2) * some()}
			}
			p.Fns[n] = f
		}
		expectRead(t, p, min(some(), 1000))
	}
}

// Promise 9.3: every Run ends: the longest that there is between two STicks, as often as there is fuel.
func TestLongRun(t *testing.T) {
	loop := row(code(tick(1)), slices.Repeat(code(load(0), store(1)), 499), code(jump(0)))
	p := api.Prog{Fns: []api.SFn{{Locals: 2, Code: loop}}}
	expect(t, p, 20000, strings.Repeat("t1 ", 20000)+"= nil 6")
}

// Rules 3 and 8: what is handed in is not changed, nor kept; what is answered is new memory; the same call answers the same.

// spare is v with room behind its list, which holds something.
func spare(v api.Value) api.Value {
	v.L = append(slices.Clone(v.L), val.Text("spare"))[:len(v.L)]
	return v
}

// full is a program that outputs, returns, pushes and keeps lists of its constants, with spare room behind all lists.
func full() api.Prog {
	inner := spare(val.List(values(val.Int(1), val.Int(2))))
	outer := spare(api.Value{Kind: api.VList, L: []api.Value{inner, inner, val.Text("a")}})
	p := program(append(values(outer, inner, val.Int(0)), val.Int(77))[:3],
		konst(0), store(0), konst(1), store(1), // twice told as they stand
		load(0), out(), load(0), out(), konst(1), out(), load(1), out(),
		load(0), load(1), load(0), list(3), store(2), load(2), out(), load(2), out(),
		load(0), konst(2), bin(api.OGet), out(), load(0), load(0), bin(api.OAdd), out(), load(0), load(1), bin(api.OPush), out(),
		load(0), tick(1), call(0, 1), out(), load(0), load(1), load(2), tick(2), call(1, 3), out(),
		load(0), ret())
	p.Fns = append(p.Fns, api.SFn{Name: "spare"})[:len(p.Fns)]
	p.Fns[2].Code = append(p.Fns[2].Code, out(), pop())[:len(p.Fns[2].Code)]
	return p
}

// everything is all that p has, spare room too.
func everything(p api.Prog) []any {
	l := []any{p.Main}
	var all func(v api.Value)
	all = func(v api.Value) {
		l = append(l, v, v.L[:cap(v.L)])
		for _, x := range v.L {
			all(x)
		}
	}
	for _, f := range p.Fns[:cap(p.Fns)] {
		l = append(l, f, f.Code[:cap(f.Code)], f.Consts[:cap(f.Consts)])
		for _, v := range f.Consts {
			all(v)
		}
	}
	return l
}

func TestNothingIsChanged(t *testing.T) {
	p, q := full(), full()
	for fuel := -1; fuel < 20; fuel++ {
		expectRead(t, p, fuel)
	}
	if x, _ := svm.Run(p, 20); x.E != api.ROK || len(x.Events) != 13 {
		t.Fatal(tell(x))
	}
	if !reflect.DeepEqual(everything(p), everything(q)) {
		t.Error("what was handed in is changed")
	}
	r := rand.New(rand.NewSource(94))
	for range 2000 {
		seed := r.Int63()
		p, q := likelyProgram(rand.New(rand.NewSource(seed)), 20), likelyProgram(rand.New(rand.NewSource(seed)), 20)
		svm.Run(p, 20)
		if !reflect.DeepEqual(everything(p), everything(q)) {
			t.Fatal("what was handed in is changed")
		}
	}
}

// places are where the values of v's lists stand, spare room too.
func places(v api.Value, to map[*api.Value]int) {
	l := v.L[:cap(v.L)]
	for i := range l {
		to[&l[i]]++
		places(l[i], to)
	}
}

// No two lists of an answer share memory, and none shares any with the program.
func TestAnswersAreNewMemory(t *testing.T) {
	p := full()
	first, _ := svm.Run(p, 99)
	second, _ := svm.Run(p, 99)
	before := tell(second)
	to := map[*api.Value]int{}
	for _, f := range p.Fns {
		for i := range f.Consts[:cap(f.Consts)] {
			to[&f.Consts[:cap(f.Consts)][i]] = 0
		}
		for _, v := range f.Consts {
			places(v, to)
		}
	}
	for v := range to { // the program's own lists may share what they like
		to[v] = 1
	}
	events := map[*api.Event]int{}
	for _, x := range []api.Trace{first, second} {
		for i := range x.Events[:cap(x.Events)] {
			events[&x.Events[:cap(x.Events)][i]]++
		}
		for _, e := range x.Events {
			places(e.V, to)
		}
		places(x.V, to)
	}
	for _, n := range to {
		if n > 1 {
			t.Fatal("two lists share memory")
		}
	}
	for _, n := range events {
		if n > 1 {
			t.Fatal("two traces share memory")
		}
	}
	spoil(first)
	third, _ := svm.Run(p, 99)
	if tell(second) != before || tell(third) != before {
		t.Error(short(tell(third)))
	}
}

// spoil overwrites all lists of a trace.
func spoil(x api.Trace) {
	var all func(v api.Value)
	all = func(v api.Value) {
		l := v.L[:cap(v.L)]
		for i := range l {
			all(l[i])
			l[i] = api.Value{Kind: 77}
		}
	}
	all(x.V)
	for i := range x.Events[:cap(x.Events)] {
		all(x.Events[:cap(x.Events)][i].V)
		x.Events[:cap(x.Events)][i] = api.Event{Kind: 77}
	}
}

// Rule 7: what a constant holds in fields that its kind leaves unused is not told.
func TestUnusedFieldsAreNotTold(t *testing.T) {
	minus := complex(math.Copysign(0, -1), math.Copysign(0, -1))
	some := make([]api.Value, 0, 4)
	for _, c := range []struct{ v, want api.Value }{
		{api.Value{Z: minus, L: some}, val.Nil()},
		{api.Value{Kind: api.VInt, N: 3, Z: minus, L: some}, val.Int(3)},
		{api.Value{Kind: api.VText, S: "a", Z: minus, L: some}, val.Text("a")},
		{api.Value{Kind: api.VCx, Z: 2i, L: some}, val.Cx(2i)},
		{api.Value{Kind: api.VList, Z: minus, L: []api.Value{{Z: minus, L: some}}}, val.List(values(val.Nil()))},
	} {
		if !val.Ok(c.v) {
			t.Fatal(c.v)
		}
		p := program(values(c.v), konst(0), out(), konst(0), store(0), load(0), ret())
		x, e := svm.Run(p, 1)
		if e != api.OK || len(x.Events) != 1 {
			t.Fatal(tell(x), e)
		}
		for _, v := range values(x.Events[0].V, x.V) {
			if !reflect.DeepEqual(v, c.want) || math.Signbit(real(v.Z)) || math.Signbit(imag(v.Z)) || len(v.L) > 0 && math.Signbit(real(v.L[0].Z)) {
				t.Errorf("%#v, want %#v", v, c.want)
			}
		}
	}
}

// Promise 9.2: the same program and fuel tell the same, whoever else calls.
func TestTheSameIsTold(t *testing.T) {
	r := rand.New(rand.NewSource(92))
	for range 300 {
		p, fuel := likelyProgram(r, 30), r.Intn(60)
		want, e := svm.Run(p, fuel)
		var all sync.WaitGroup
		for range 4 {
			all.Go(func() {
				for range 3 {
					if x, wrong := svm.Run(p, fuel); wrong != e || !reflect.DeepEqual(x, want) {
						t.Error(tell(x), tell(want))
					}
				}
			})
		}
		all.Wait()
	}
}
