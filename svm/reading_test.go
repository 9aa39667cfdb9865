package svm_test

import (
	"math"
	"math/rand"
	"reflect"
	"testing"

	"ratline/api"
	"ratline/ops"
	"ratline/stack"
	"ratline/svm"
	"ratline/val"
)

// A second reading of promise 9.1, to hold Run against: a call is a call of Go's, its stack is a chain of values that are never changed, its locals are a map that has only what was stored, and what ends a run is a panic of an api.Run.

type chain struct {
	v    api.Value
	rest *chain
}

type reading struct {
	p    api.Prog
	left int
	told []api.Event
}

func (r *reading) event(e api.Event) {
	if r.left <= 0 {
		panic(api.RFuel)
	}
	r.left--
	r.told = append(r.told, e)
}

// made is v, if there was no error.
func made(v api.Value, e api.Run) api.Value {
	if e != api.ROK {
		panic(e)
	}
	return v
}

// listMade is a list of l: by its parts' Sizes and depths, which are those that val tells.
func listMade(l []api.Value) api.Value {
	size, deepest := 1, 0
	for _, v := range l {
		size, deepest = size+val.Size(v), max(deepest, depth(v))
	}
	if size > 1000 || deepest > 23 {
		panic(api.RBig)
	}
	return api.Value{Kind: api.VList, L: l}
}

func depth(v api.Value) int {
	if v.Kind != api.VList {
		return 0
	}
	n := 0
	for _, x := range v.L {
		n = max(n, depth(x))
	}
	return n + 1
}

// call is what the function returns.
func (r *reading) call(fn int, operands []api.Value) api.Value {
	f, locals := r.p.Fns[fn], map[int]api.Value{}
	for i, v := range operands {
		locals[i] = v
	}
	var top *chain
	for at := 0; ; {
		i := f.Code[at]
		taken := make([]api.Value, stack.Pops(i))
		for k := len(taken) - 1; k >= 0; k-- {
			taken[k], top = top.v, top.rest
		}
		push := func(v api.Value) { top = &chain{v, top} }
		at++
		switch i.Op {
		case 1:
			push(f.Consts[i.A])
		case 2:
			push(locals[i.A])
		case 3:
			locals[i.A] = taken[0]
		case 5:
			push(made(ops.Binary(i.A, taken[0], taken[1])))
		case 6:
			push(made(ops.Unary(i.A, taken[0])))
		case 7:
			at = i.A
		case 8:
			if v, _ := ops.Unary(api.ONot, taken[0]); v.N == 1 {
				at = i.A
			}
		case 9:
			push(r.call(i.A, taken))
		case 10:
			return taken[0]
		case 11:
			r.event(api.Event{Kind: 2, V: taken[0]})
		case 12:
			r.event(api.Event{Kind: 1, N: i.A})
		case 13:
			push(listMade(taken))
		}
	}
}

func (r *reading) run() (x api.Trace) {
	defer func() {
		x.Events = r.told
		switch e := recover().(type) {
		case nil:
		case api.Run:
			x.E = e
		default:
			panic(e)
		}
	}()
	x.V = r.call(r.p.Main, nil)
	return x
}

func read(p api.Prog, fuel int) (api.Trace, api.Errno) {
	if e := stack.Check(p); e != api.OK {
		return api.Trace{}, e
	}
	r := reading{p: p, left: min(fuel, 100000)}
	return r.run(), api.OK
}

// equal tells whether two traces tell the same; no list is as good as an empty one.
func equal(a, b api.Trace) bool {
	if len(a.Events) != len(b.Events) || a.E != b.E || !alike(a.V, b.V) {
		return false
	}
	for i, e := range a.Events {
		if f := b.Events[i]; e.Kind != f.Kind || e.N != f.N || !alike(e.V, f.V) {
			return false
		}
	}
	return true
}

func alike(a, b api.Value) bool {
	return val.Ok(a) && val.Ok(b) && val.Same(a, b)
}

// expectRead asks that Run tells what the second reading does, and with less fuel the beginning of it.
func expectRead(t *testing.T, p api.Prog, fuel int) (api.Trace, api.Errno) {
	t.Helper()
	x, e := svm.Run(p, fuel)
	want, wrong := read(p, fuel)
	if e != wrong || !equal(x, want) {
		t.Fatalf("%s with %d: %s, %d, want %s, %d", short(p), fuel, short(tell(x)), e, short(tell(want)), wrong)
	}
	if e != api.OK && !reflect.DeepEqual(x, api.Trace{}) {
		t.Fatal(short(x))
	}
	return x, e
}

// ends counts how runs ended, and what they told.
type ends struct {
	run         [7]int
	errno       map[api.Errno]int
	ticks, outs int
}

func (n *ends) add(x api.Trace, e api.Errno) {
	if n.errno == nil {
		n.errno = map[api.Errno]int{}
	}
	n.errno[e]++
	if e != api.OK {
		return
	}
	n.run[x.E]++
	for _, v := range x.Events {
		n.ticks, n.outs = n.ticks+v.Kind%2, n.outs+v.Kind/2
	}
}

// All short codes of main, beside a function that gives its operand back behind an output, and one that calls itself.
func TestAllShortCodes(t *testing.T) {
	var n ends
	all := func(length int, alphabet ...api.SIns) {
		p := api.Prog{Main: 1, Fns: []api.SFn{
			{Params: 1, Locals: 2, Consts: values(val.Int(3)), Code: code(load(0), out(), load(1), konst(0), store(1), load(0), list(2), ret())},
			{Locals: 2, Consts: values(val.Int(2), val.Text("")), Code: make([]api.SIns, length)},
		}}
		var fill func(at int)
		fill = func(at int) {
			if at == length {
				for _, fuel := range []int{0, 1, 2, 7} {
					n.add(expectRead(t, p, fuel))
				}
				return
			}
			for _, i := range alphabet {
				p.Fns[1].Code[at] = i
				fill(at + 1)
			}
		}
		fill(0)
	}
	for length := range 4 {
		all(length, konst(0), konst(1), load(1), store(1), pop(), bin(api.OMul), bin(api.OEq), un(api.OLen), jump(0), jump(2), brz(0), brz(2), call(0, 1), call(1, 0), ret(), out(), tick(5), list(0), list(2))
	}
	all(4, konst(0), konst(1), load(1), store(1), bin(api.OAdd), un(api.OLen), jump(0), brz(0), brz(3), call(0, 1), ret(), out(), tick(5))
	all(5, konst(0), load(1), store(1), brz(0), call(0, 1), call(1, 0), ret(), tick(5), list(2))
	all(6, konst(1), out(), load(0), brz(0), call(1, 0), ret(), tick(5))
	if n.run[api.ROK] < 1000 || n.run[api.RKind] < 100 || n.run[api.RFuel] < 500 || n.ticks < 1000 || n.outs < 1000 {
		t.Error(n)
	}
}

// likelyCode is code that is sound: it knows the heights that it has, and jumps where the height is the same.
func likelyCode(r *rand.Rand, n int, p api.Prog, f api.SFn) []api.SIns {
	l, heights := make([]api.SIns, 0, n), []int{0}
	add := func(i api.SIns) {
		h := heights[len(l)]
		l = append(l, i)
		heights = append(heights, h-stack.Pops(i)+stack.Pushes(i))
	}
	for len(l) < n {
		i := likelyIns(r, p, f)
		switch h := heights[len(l)]; {
		case stack.Pops(i) > h || h > 60:
			add(konst(r.Intn(len(f.Consts))))
		case i.Op == api.SCall:
			add(tick(1 + r.Intn(4095)))
			add(i)
		default:
			add(i)
		}
	}
	if heights[len(l)] == 0 {
		add(load(0))
	}
	add(ret())
	aim(r, l, heights)
	return l
}

func likelyIns(r *rand.Rand, p api.Prog, f api.SFn) api.SIns {
	fn := r.Intn(len(p.Fns))
	some := code(konst(r.Intn(len(f.Consts))), konst(r.Intn(len(f.Consts))), load(r.Intn(f.Locals)), load(r.Intn(f.Locals)), store(r.Intn(f.Locals)), store(r.Intn(f.Locals)), pop(), bin(1+r.Intn(14)), bin(api.OAdd), bin(api.OEq), un(api.ONot), un(15+r.Intn(6)), jump(0), brz(0), brz(0), brz(0), call(fn, p.Fns[fn].Params), call(fn, p.Fns[fn].Params), out(), out(), tick(1+r.Intn(9)), list(r.Intn(4)), ret())
	return some[r.Intn(len(some))]
}

// aim leads the jumps to places of their heights, back only to STicks.
func aim(r *rand.Rand, l []api.SIns, heights []int) {
	for at, i := range l {
		if i.Op != api.SJump && i.Op != api.SBrz {
			continue
		}
		l[at].A = at + 1
		for range 12 {
			to := r.Intn(len(l))
			if heights[to] == heights[at]-stack.Pops(i) && l[to].Op != api.SCall && (to > at || l[to].Op == api.STick) {
				l[at].A = to
				break
			}
		}
	}
}

// likelyProgram is a program of one to four functions of likely code.
func likelyProgram(r *rand.Rand, n int) api.Prog {
	p := api.Prog{Fns: make([]api.SFn, 1+r.Intn(4))}
	p.Main = r.Intn(len(p.Fns))
	for fn := range p.Fns {
		params := r.Intn(4)
		if fn == p.Main {
			params = 0
		}
		some := values(val.Int(1), val.Nil(), val.Int(int64(r.Intn(5))), val.Text("ab"), val.List(values(val.Int(1))), val.Cx(1i), text(300+r.Intn(400)), val.Int(0))
		r.Shuffle(len(some), func(i, k int) { some[i], some[k] = some[k], some[i] })
		p.Fns[fn] = api.SFn{Params: params, Locals: params + 1 + r.Intn(3), Consts: some[:2+r.Intn(4)]}
	}
	for fn, f := range p.Fns {
		p.Fns[fn].Code = likelyCode(r, 1+r.Intn(n), p, f)
	}
	return p
}

func TestLikelyPrograms(t *testing.T) {
	r := rand.New(rand.NewSource(9))
	var n ends
	for range 15000 {
		p := likelyProgram(r, 30)
		x, e := expectRead(t, p, 60)
		n.add(x, e)
		fuel := r.Intn(12) - 1
		n.add(expectRead(t, p, fuel))
		if less, _ := svm.Run(p, fuel); e == api.OK && !equal(less, withLessFuel(x, fuel)) {
			t.Fatal(short(p), tell(x), tell(less))
		}
	}
	if n.run[api.ROK] < 1000 || n.run[api.RKind] < 1000 || n.run[api.RZero] == 0 || n.run[api.RIndex] == 0 || n.run[api.RBig] == 0 || n.run[api.RFuel] < 1000 || n.ticks < 10000 || n.outs < 10000 {
		t.Error(n)
	}
}

// One thing of a program is changed: it is refused as Check says, or run as it then is.
func TestBlemishedPrograms(t *testing.T) {
	r := rand.New(rand.NewSource(99))
	var n ends
	for range 20000 {
		p := likelyProgram(r, 12)
		f := &p.Fns[r.Intn(len(p.Fns))]
		i := &f.Code[r.Intn(len(f.Code))]
		far := []int{-1, 0, 1, 2, 3, 5, 8, 9, 14, 15, 16, 21, 64, 65, 4095, 4096, len(f.Code), len(f.Code) - 1, math.MaxInt, math.MinInt}[r.Intn(20)]
		for k, x := range []*int{&i.Op, &i.A, &i.A, &i.A, &i.B, &f.Params, &f.Locals, &p.Main, &f.Consts[0].Kind} {
			if k == r.Intn(9) {
				*x = far
			}
		}
		n.add(expectRead(t, p, 9))
	}
	for _, e := range []api.Errno{api.OK, api.ErrForm, api.ErrStack, api.ErrTick} {
		if n.errno[e] < 20 {
			t.Error(e, n)
		}
	}
}

// bytesProgram takes any bytes as a program.
func bytesProgram(b []byte) api.Prog {
	take := func() int {
		if len(b) == 0 {
			return 0
		}
		n := int(int8(b[0]))
		b = b[1:]
		return n
	}
	p := api.Prog{Main: take()}
	for range take() & 3 {
		f := api.SFn{Params: take(), Locals: take()}
		for range take() & 3 {
			f.Consts = append(f.Consts, []api.Value{val.Nil(), val.Int(int64(take())), val.Text("ab"), val.List(values(val.Int(1))), val.Cx(2i), text(700), {Kind: 9}}[take()&255%7])
		}
		for range take() & 31 {
			i := api.SIns{Op: take(), A: take()}
			if i.Op < 0 || i.Op == api.SCall {
				i.B = take()
			}
			f.Code = append(f.Code, i)
		}
		p.Fns = append(p.Fns, f)
	}
	return p
}

func TestAnyBytes(t *testing.T) {
	r := rand.New(rand.NewSource(90))
	for range 30000 {
		b := make([]byte, r.Intn(60))
		for i := range b {
			b[i] = byte(r.Intn(16))
			if r.Intn(12) == 0 {
				b[i] = byte(r.Int())
			}
		}
		expectRead(t, bytesProgram(b), r.Intn(30))
	}
}

func FuzzRun(f *testing.F) {
	f.Add([]byte{}, 5)
	f.Add([]byte{0, 1, 0, 1, 1, 3, 1, 4, 1, 0, 11, 0, 2, 0, 10, 0}, 5)
	f.Add([]byte{0, 1, 0, 1, 1, 0, 0, 5, 12, 7, 1, 0, 8, 0, 1, 0, 10, 0}, 3)
	f.Add([]byte{0, 2, 0, 0, 1, 5, 1, 4, 1, 0, 12, 1, 9, 1, 1, 10, 0, 1, 1, 0, 4, 2, 0, 12, 3, 9, 1, 1, 10, 0}, 50)
	f.Add([]byte{0, 1, 0, 0, 0, 1, 7, 0}, 1)
	f.Fuzz(func(t *testing.T, b []byte, fuel int) {
		expectRead(t, bytesProgram(b), min(fuel, 2000))
	})
}
