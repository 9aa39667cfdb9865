package gen_test

import (
	"math/rand"
	"reflect"
	"testing"

	"ratline/api"
	"ratline/gen"
	"ratline/ops"
	"ratline/parse"
	"ratline/val"
)

// The code means what the tree means: trees are run as they stand, by the page's section 'The language', and their code by a small machine; both tell ticks, outputs, how they ended and what came back.

// run is what both runs have in common. What ends one ahead of its time is a panic of an api.Run.
type run struct {
	fuel int
	told api.Trace
}

func (r *run) event(e api.Event) {
	if r.fuel--; r.fuel < 0 {
		panic(api.RFuel)
	}
	r.told.Events = append(r.told.Events, e)
}

func (r *run) tick(n int)       { r.event(api.Event{Kind: api.ETick, N: n}) }
func (r *run) out(v api.Value)  { r.event(api.Event{Kind: api.EOut, V: v}) }
func (r *run) trace() api.Trace { return r.told }

func done(v api.Value, e api.Run) api.Value {
	if e != api.ROK {
		panic(e)
	}
	return v
}

func listOf(l []api.Value) api.Value {
	v := val.List(l)
	if v.Kind != api.VList {
		panic(api.RBig)
	}
	return v
}

func (r *run) begin(f func() api.Value) {
	defer func() {
		switch e := recover().(type) {
		case nil:
		case api.Run:
			r.told.E = e
		default:
			panic(e)
		}
	}()
	r.told.V = f()
}

// treeRun runs trees. Its ticks are numbered by where their nodes stand.
type treeRun struct {
	run
	funs  []api.Fun
	ticks map[*api.Node]int
}

func numberTicks(l []api.Fun) map[*api.Node]int {
	ticks := map[*api.Node]int{}
	var through func(n *api.Node)
	through = func(n *api.Node) {
		for i := range n.L {
			through(&n.L[i])
		}
		_, built := builtIn[n.S]
		if n.Kind == api.NWhile || n.Kind == api.ECall && !built {
			ticks[n] = len(ticks) + 1
		}
	}
	for i := range l {
		through(&l[i].Body)
	}
	return ticks
}

var builtIn = map[string]int{"push": api.OPush, "cx": api.OCx, "len": api.OLen, "re": api.ORe, "im": api.OIm, "conj": api.OConj}

// goesOn is how a statement ended.
type goesOn int

const (
	further goesOn = iota
	leaves
	nextRound
	returns
)

// names are those of a call, the innermost block last.
type names struct {
	blocks []map[string]*api.Value
	back   api.Value
}

func (n *names) find(name string) *api.Value {
	for _, b := range n.blocks {
		if v := b[name]; v != nil {
			return v
		}
	}
	panic("no such name")
}

func (r *treeRun) call(name string, l []api.Value) api.Value {
	for i := range r.funs {
		if f := &r.funs[i]; f.Name == name {
			n := &names{blocks: []map[string]*api.Value{{}}}
			for k, p := range f.Params {
				n.blocks[0][p] = &l[k]
			}
			r.statement(&f.Body, n)
			return n.back
		}
	}
	panic("no such function")
}

func (r *treeRun) statement(x *api.Node, n *names) goesOn {
	e := func() api.Value { return r.expr(&x.L[0], n) }
	switch x.Kind {
	case api.NLet:
		v := e()
		n.blocks[len(n.blocks)-1][x.S] = &v
	case api.NSet:
		v := e()
		*n.find(x.S) = v
	case api.NDo:
		e()
	case api.NPrint:
		r.out(e())
	case api.NReturn:
		if len(x.L) > 0 {
			n.back = e()
		}
		return returns
	case api.NBreak:
		return leaves
	case api.NContinue:
		return nextRound
	case api.NBlock:
		return r.block(x, n)
	case api.NIf:
		if val.Truth(e()) {
			return r.statement(&x.L[1], n)
		} else if len(x.L) == 3 {
			return r.statement(&x.L[2], n)
		}
	case api.NWhile:
		for val.Truth(e()) {
			how := r.statement(&x.L[1], n)
			if how == returns {
				return returns
			}
			if how == leaves {
				break
			}
			r.tick(r.ticks[x])
		}
	}
	return further
}

func (r *treeRun) block(x *api.Node, n *names) goesOn {
	n.blocks = append(n.blocks, map[string]*api.Value{})
	defer func() { n.blocks = n.blocks[:len(n.blocks)-1] }()
	for i := range x.L {
		if how := r.statement(&x.L[i], n); how != further {
			return how
		}
	}
	return further
}

func (r *treeRun) truth(x *api.Node, n *names) bool { return val.Truth(r.expr(x, n)) }

func (r *treeRun) expr(x *api.Node, n *names) api.Value {
	holds := map[bool]int64{true: 1}
	switch x.Kind {
	case api.EInt:
		return val.Int(x.N)
	case api.EImag:
		return done(ops.Binary(api.OCx, val.Int(0), val.Int(x.N)))
	case api.EText:
		return val.Text(x.S)
	case api.ENil:
		return val.Nil()
	case api.EVar:
		return *n.find(x.S)
	case api.EAnd:
		return val.Int(holds[r.truth(&x.L[0], n) && r.truth(&x.L[1], n)])
	case api.EOr:
		return val.Int(holds[r.truth(&x.L[0], n) || r.truth(&x.L[1], n)])
	}
	var l []api.Value
	for i := range x.L {
		l = append(l, r.expr(&x.L[i], n))
	}
	op, built := x.Op, true
	switch x.Kind {
	case api.EList:
		return listOf(l)
	case api.ECall:
		op, built = builtIn[x.S]
	}
	switch {
	case !built:
		r.tick(r.ticks[x])
		return r.call(x.S, l)
	case len(l) == 2:
		return done(ops.Binary(op, l[0], l[1]))
	}
	return done(ops.Unary(op, l[0]))
}

// codeRun runs code.
type codeRun struct {
	run
	p api.Prog
}

func (r *codeRun) call(fn int, l []api.Value) api.Value {
	f := r.p.Fns[fn]
	locals := append(l, make([]api.Value, f.Locals-len(l))...)
	var values []api.Value
	take := func(n int) []api.Value {
		l := append([]api.Value(nil), values[len(values)-n:]...)
		values = values[:len(values)-n]
		return l
	}
	push := func(v api.Value) { values = append(values, v) }
	for at := 0; ; {
		i := f.Code[at]
		at++
		switch i.Op {
		case api.SConst:
			push(f.Consts[i.A])
		case api.SLoad:
			push(locals[i.A])
		case api.SStore:
			locals[i.A] = take(1)[0]
		case api.SPop:
			take(1)
		case api.SBin:
			l := take(2)
			push(done(ops.Binary(i.A, l[0], l[1])))
		case api.SUn:
			push(done(ops.Unary(i.A, take(1)[0])))
		case api.SJump:
			at = i.A
		case api.SBrz:
			if !val.Truth(take(1)[0]) {
				at = i.A
			}
		case api.SCall:
			push(r.call(i.A, take(i.B)))
		case api.SRet:
			return take(1)[0]
		case api.SOut:
			r.out(take(1)[0])
		case api.STick:
			r.tick(i.A)
		case api.SList:
			push(listOf(take(i.A)))
		}
	}
}

// expectRuns asks that l and its code tell the same.
func expectRuns(t *testing.T, l []api.Fun, fuel int) api.Trace {
	t.Helper()
	p, e := gen.Program(l)
	if e != api.OK {
		t.Fatalf("%s: %d", short(l), e)
	}
	tree, code := treeRun{run: run{fuel: fuel}, funs: l, ticks: numberTicks(l)}, codeRun{run: run{fuel: fuel}, p: p}
	tree.begin(func() api.Value { return tree.call("main", nil) })
	code.begin(func() api.Value { return code.call(p.Main, nil) })
	if want := tree.trace(); !reflect.DeepEqual(code.trace(), want) {
		s, _ := parse.Print(l)
		t.Fatalf("%s\n%s\nwant\n%s", s, short(code.trace()), short(want))
	}
	return code.trace()
}

func TestAnyProgramsRun(t *testing.T) {
	ends := map[api.Run]int{}
	ticks, outs := 0, 0
	for i := range 3000 {
		m := &maker{Rand: rand.New(rand.NewSource(int64(i))), wild: 1 << 30}
		l := m.program()
		if _, e := gen.Program(l); e != api.OK { // a name that came twice
			continue
		}
		for _, fuel := range []int{3, 50} {
			told := expectRuns(t, l, fuel)
			ends[told.E]++
			for _, e := range told.Events {
				ticks, outs = ticks+e.Kind%2, outs+e.Kind/2
			}
		}
	}
	if ends[api.ROK] < 300 || ends[api.RFuel] < 300 || ends[api.RKind] < 300 || ticks < 3000 || outs < 3000 {
		t.Error(ends, ticks, outs)
	}
}

// Programs that were thought out: what is told of them is written by hand.
func TestProgramsRun(t *testing.T) {
	for s, want := range map[string]string{
		"fn main() { print 1; }": "1",
		"fn fib(n) { if n < 2 { return n; } return fib(n - 1) + fib(n - 2); } fn main() { print fib(10); }":                                                                                    "55",
		"fn main() { let l = []; let i = 0; while i < 10 { i = i + 1; if i % 2 == 0 { continue; } if i > 7 { break; } l = push(l, i); } print l; print i; }":                                   "[1, 3, 5, 7] 9",
		"fn main() { let i = 0; while i < 3 { let k = 0; while 1 { if k == i { break; } k = k + 1; if k == 1 { continue; } print [i, k]; } i = i + 1; } }":                                     "[2, 2]",
		"fn say(s, v) { print s; return v; } fn main() { print say(\"a\", 0) && say(\"b\", 1); print say(\"c\", 2) || say(\"d\", 1); print say(\"e\", 2) && say(\"f\", 3); print nil || []; }": `"a" 0 "c" 1 "e" "f" 1 0`,
		"fn say(v) { print v; return v; } fn main() { print say(1) + say(2) * say(3); print [say(4), say(5)][say(1)]; }":                                                                       "1 2 3 7 4 5 1 5",
		"fn main() { if 0 && 1 || 2 && !3 || \"\" { print 1; } else if [0] && 0i == cx(0, 0) { print 2; } else { print 3; } }":                                                                 "2",
		"fn f(a) { a = a + 1; return; } fn main() { let a = 1; print f(a); print a; print len(\"abc\") + len([1, 2]); print re(2i) == conj(im(5)); }":                                          "nil 1 5 1",
	} {
		l, _, e := parse.Program(s)
		if e != api.OK {
			t.Fatal(s, e)
		}
		told, got := expectRuns(t, l, 1000), ""
		for _, e := range told.Events {
			if e.Kind == api.EOut {
				got += " " + val.Show(e.V)
			}
		}
		if told.E != api.ROK || got != " "+want {
			t.Errorf("%s: %s, %d, want %s", s, got, told.E, want)
		}
	}
}
