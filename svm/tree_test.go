package svm_test

import (
	"math/rand"
	"testing"

	"ratline/api"
	"ratline/gen"
	"ratline/likely"
	"ratline/ops"
	"ratline/parse"
	"ratline/scope"
	"ratline/svm"
	"ratline/val"
)

// W2: what the machine tells of a program's code is what the tree tells. Trees are run as they stand, by the page's section 'The language'.

// treeRun runs trees. Ticks are numbered by where they stand.
type treeRun struct {
	reading // for its events alone
	funs    []api.Fun
	ticks   map[*api.Node]int
}

// number numbers the loops and calls of n and of what is in it, each behind its parts.
func (r *treeRun) number(n *api.Node) {
	for i := range n.L {
		r.number(&n.L[i])
	}
	_, _, builtIn := scope.Builtin(n.S)
	if n.Kind == api.NWhile || n.Kind == api.ECall && !builtIn {
		r.ticks[n] = len(r.ticks) + 1
	}
}

func (r *treeRun) tick(n *api.Node) { r.event(api.Event{Kind: api.ETick, N: r.ticks[n]}) }

// frame is what a call has: its names, block by block, and what it returns.
type frame struct {
	blocks []map[string]*api.Value
	back   api.Value
}

func (f *frame) find(name string) *api.Value {
	for _, b := range f.blocks {
		if v := b[name]; v != nil {
			return v
		}
	}
	panic("no such name")
}

// How a statement ended.
const (
	further = iota
	leaves
	again
	returns
)

func (r *treeRun) call(name string, l []api.Value) api.Value {
	for i := range r.funs {
		if r.funs[i].Name == name {
			f := &frame{blocks: []map[string]*api.Value{{}}}
			for k, p := range r.funs[i].Params {
				f.blocks[0][p] = &l[k]
			}
			r.statement(&r.funs[i].Body, f)
			return f.back
		}
	}
	panic("no such function")
}

func (r *treeRun) truth(n *api.Node, f *frame) bool { return val.Truth(r.expr(n, f)) }

func (r *treeRun) statement(n *api.Node, f *frame) int {
	switch n.Kind {
	case api.NLet:
		v := r.expr(&n.L[0], f)
		f.blocks[len(f.blocks)-1][n.S] = &v
	case api.NSet:
		v := r.expr(&n.L[0], f)
		*f.find(n.S) = v
	case api.NDo:
		r.expr(&n.L[0], f)
	case api.NPrint:
		r.event(api.Event{Kind: api.EOut, V: r.expr(&n.L[0], f)})
	case api.NReturn:
		if len(n.L) > 0 {
			f.back = r.expr(&n.L[0], f)
		}
		return returns
	case api.NBreak:
		return leaves
	case api.NContinue:
		return again
	case api.NIf:
		if r.truth(&n.L[0], f) {
			return r.statement(&n.L[1], f)
		} else if len(n.L) > 2 {
			return r.statement(&n.L[2], f)
		}
	case api.NWhile:
		return r.loop(n, f)
	case api.NBlock:
		return r.block(n, f)
	}
	return further
}

func (r *treeRun) loop(n *api.Node, f *frame) int {
	for r.truth(&n.L[0], f) {
		switch r.statement(&n.L[1], f) {
		case returns:
			return returns
		case leaves:
			return further
		}
		r.tick(n)
	}
	return further
}

func (r *treeRun) block(n *api.Node, f *frame) int {
	f.blocks = append(f.blocks, map[string]*api.Value{})
	defer func() { f.blocks = f.blocks[:len(f.blocks)-1] }()
	for i := range n.L {
		if how := r.statement(&n.L[i], f); how != further {
			return how
		}
	}
	return further
}

func (r *treeRun) expr(n *api.Node, f *frame) api.Value {
	number := map[bool]int64{true: 1}
	switch n.Kind {
	case api.EInt:
		return val.Int(n.N)
	case api.EImag:
		return val.Cx(complex(0, float64(n.N)))
	case api.EText:
		return val.Text(n.S)
	case api.ENil:
		return val.Nil()
	case api.EVar:
		return *f.find(n.S)
	case api.EAnd:
		return val.Int(number[r.truth(&n.L[0], f) && r.truth(&n.L[1], f)])
	case api.EOr:
		return val.Int(number[r.truth(&n.L[0], f) || r.truth(&n.L[1], f)])
	}
	l := make([]api.Value, len(n.L))
	for i := range n.L {
		l[i] = r.expr(&n.L[i], f)
	}
	op := n.Op
	switch n.Kind {
	case api.EList:
		return listMade(l)
	case api.ECall:
		builtIn := false
		if op, _, builtIn = scope.Builtin(n.S); !builtIn {
			r.tick(n)
			return r.call(n.S, l)
		}
	}
	if len(l) == 2 {
		return made(ops.Binary(op, l[0], l[1]))
	}
	return made(ops.Unary(op, l[0]))
}

// treeTold is what the trees tell.
func treeTold(l []api.Fun, fuel int) (x api.Trace) {
	r := treeRun{reading: reading{left: fuel}, funs: l, ticks: map[*api.Node]int{}}
	for i := range l {
		r.number(&l[i].Body)
	}
	defer func() {
		x.Events = r.told
		switch e := recover().(type) {
		case nil:
		case api.Run:
			x.E = e
		default:
			panic(e)
		}
	}()
	x.V = r.call("main", nil)
	return x
}

// expectTree asks that the machine tells of a text's code what its trees tell.
func expectTree(t *testing.T, s string, fuel int) api.Trace {
	t.Helper()
	l, at, e := parse.Program(s)
	if e != api.OK {
		t.Fatal(s, at, e)
	}
	x, e := svm.Run(sourceCode(t, s), fuel)
	if want := treeTold(l, fuel); e != api.OK || !equal(x, want) {
		t.Fatalf("%s\nwith %d: %s, %d\nwant %s", s, fuel, tell(x), e, tell(want))
	}
	return x
}

func TestAnySources(t *testing.T) {
	var n ends
	for i := range 1500 {
		s := likely.Source(rand.New(rand.NewSource(int64(i))).Intn)
		if _, _, e := gen.Source(s); e == api.ErrLong || e == api.ErrBig {
			continue
		}
		n.add(expectTree(t, s, 60), api.OK)
		n.add(expectTree(t, s, i%9), api.OK)
	}
	if n.run[api.ROK] < 200 || n.run[api.RKind] < 200 || n.run[api.RZero] == 0 || n.run[api.RIndex] == 0 || n.run[api.RFuel] < 200 || n.ticks < 4000 || n.outs < 4000 {
		t.Error(n)
	}
}

// Programs that were thought out: what they reckon is known.
func TestThoughtOutSources(t *testing.T) {
	for s, want := range map[string]string{
		"fn gcd(a, b) { while b { let r = a % b; a = b; b = r; } return a; } fn main() { return gcd(1071, 462); }":                                                                                                        "21",
		"fn prime(n) { let i = 2; while i * i <= n { if n % i == 0 { return 0; } i = i + 1; } return n > 1; } fn main() { let l = []; let n = 0; while n < 30 { if prime(n) { l = push(l, n); } n = n + 1; } return l; }": "[2, 3, 5, 7, 11, 13, 17, 19, 23, 29]",
		"fn turn(s) { if len(s) < 2 { return s; } let r = \"\"; let i = len(s); while i > 0 { i = i - 1; r = r + s[i]; } return r; } fn main() { return turn(\"ratline\"); }":                                             "\"eniltar\"",
		"fn least(l, from) { let at = from; let i = from; while i < len(l) { if l[i] < l[at] { at = i; } i = i + 1; } return at; } fn swap(l, a, b) { let r = []; let i = 0; while i < len(l) { if i == a { r = push(r, l[b]); } else if i == b { r = push(r, l[a]); } else { r = push(r, l[i]); } i = i + 1; } return r; } fn main() { let l = [5, 2, 9, 1, 7, 3]; let i = 0; while i < len(l) { l = swap(l, i, least(l, i)); i = i + 1; } return l; }": "[1, 2, 3, 5, 7, 9]",
		"fn ack(m, n) { if m == 0 { return n + 1; } if n == 0 { return ack(m - 1, 1); } return ack(m - 1, ack(m, n - 1)); } fn main() { return ack(2, 3); }":                                     "9",
		"fn power(z, n) { let r = 1; while n { if n % 2 { r = r * z; } z = z * z; n = n / 2; } return r; } fn main() { return [power(2, 62), power(3, 40), power(1i, 6), power(cx(1, 1), 8)]; }": "[4611686018427387904, -6289078614652622815, <bff0000000000000,0000000000000000>, <4030000000000000,0000000000000000>]",
		"fn hanoi(n, a, b, c) { if n == 0 { return []; } return push(hanoi(n - 1, a, c, b), a + b) + hanoi(n - 1, c, b, a); } fn main() { return hanoi(3, \"a\", \"b\", \"c\"); }":               "[\"ab\", \"ac\", \"bc\", \"ab\", \"ca\", \"cb\", \"ab\"]",
	} {
		x := expectTree(t, s, 5000)
		if got := val.Show(x.V); x.E != api.ROK || got != want {
			t.Errorf("%s: %s, %d, want %s", s, got, x.E, want)
		}
	}
}
