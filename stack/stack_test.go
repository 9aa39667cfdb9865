package stack_test

import (
	"fmt"
	"math"
	"slices"
	"strings"
	"testing"

	"ratline/api"
	"ratline/stack"
	"ratline/val"
)

// ins is an instruction: its Op, and as many of A and B as are told.
func ins(op int, l ...int) api.SIns {
	l = append(l, 0, 0)
	return api.SIns{Op: op, A: l[0], B: l[1]}
}

func konst(a int) api.SIns { return ins(api.SConst, a) }
func load(a int) api.SIns  { return ins(api.SLoad, a) }
func store(a int) api.SIns { return ins(api.SStore, a) }
func pop() api.SIns        { return ins(api.SPop) }
func bin(op int) api.SIns  { return ins(api.SBin, op) }
func un(op int) api.SIns   { return ins(api.SUn, op) }
func jump(a int) api.SIns  { return ins(api.SJump, a) }
func brz(a int) api.SIns   { return ins(api.SBrz, a) }
func ret() api.SIns        { return ins(api.SRet) }
func out() api.SIns        { return ins(api.SOut) }
func tick(n int) api.SIns  { return ins(api.STick, n) }
func list(n int) api.SIns  { return ins(api.SList, n) }

func call(fn, args int) api.SIns { return ins(api.SCall, fn, args) }

func code(l ...api.SIns) []api.SIns { return l }

// short is what is told of a thing that may be great.
func short(x any) string {
	s := fmt.Sprint(x)
	if len(s) > 300 {
		s = s[:300] + " .."
	}
	return s
}

// Promise 7.1: what each instruction pops and pushes.

func TestPopsAndPushes(t *testing.T) {
	for _, c := range []struct {
		op, number, pops, pushes int
	}{
		{api.SConst, 1, 0, 1}, {api.SLoad, 2, 0, 1}, {api.SStore, 3, 1, 0}, {api.SPop, 4, 1, 0}, {api.SBin, 5, 2, 1}, {api.SUn, 6, 1, 1}, {api.SJump, 7, 0, 0}, {api.SBrz, 8, 1, 0}, {api.SRet, 10, 1, 0}, {api.SOut, 11, 1, 0}, {api.STick, 12, 0, 0},
		{0, 0, 0, 0}, {-1, -1, 0, 0}, {14, 14, 0, 0}, {math.MaxInt, math.MaxInt, 0, 0}, {math.MinInt, math.MinInt, 0, 0},
	} {
		for _, a := range []int{0, 1, 3, 7, 15, 64, 1000, -1, -7, math.MaxInt, math.MinInt} {
			for _, b := range []int{0, 1, 5, -1, math.MaxInt, math.MinInt} {
				if i := ins(c.op, a, b); i.Op != c.number || stack.Pops(i) != c.pops || stack.Pushes(i) != c.pushes {
					t.Errorf("%v: %d, %d", i, stack.Pops(i), stack.Pushes(i))
				}
			}
		}
	}
}

func TestPopsOfCallsAndLists(t *testing.T) {
	for _, c := range []struct{ n, pops int }{{0, 0}, {1, 1}, {2, 2}, {8, 8}, {9, 9}, {64, 64}, {65, 65}, {math.MaxInt, math.MaxInt}, {-1, 0}, {-64, 0}, {math.MinInt, 0}} {
		for _, other := range []int{0, 3, -3, math.MaxInt, math.MinInt} {
			for _, i := range code(ins(9, other, c.n), ins(13, c.n, other)) {
				if stack.Pops(i) != c.pops || stack.Pushes(i) != 1 {
					t.Errorf("%v: %d, %d", i, stack.Pops(i), stack.Pushes(i))
				}
			}
		}
	}
}

// Promise 7.1: where each instruction may lead.

func TestNext(t *testing.T) {
	for _, c := range []struct {
		i    api.SIns
		want []int
	}{
		{jump(0), []int{0}}, {jump(1), []int{1}}, {jump(2), []int{2}}, {jump(3), []int{3}}, {jump(4), []int{4}}, {jump(9), []int{9}}, {jump(-9), []int{-9}}, {jump(math.MaxInt), []int{math.MaxInt}}, {jump(math.MinInt), []int{math.MinInt}},
		{brz(0), []int{0, 2}}, {brz(1), []int{1, 2}}, {brz(2), []int{2}}, {brz(3), []int{2, 3}}, {brz(4), []int{2, 4}}, {brz(-1), []int{-1, 2}}, {brz(math.MaxInt), []int{2, math.MaxInt}}, {brz(math.MinInt), []int{math.MinInt, 2}},
		{ret(), nil}, {ins(api.SRet, 3, 3), nil}, {konst(0), []int{2}}, {load(0), []int{2}}, {store(0), []int{2}}, {pop(), []int{2}}, {bin(1), []int{2}}, {un(15), []int{2}}, {call(0, 1), []int{2}}, {out(), []int{2}}, {tick(1), []int{2}}, {list(3), []int{2}},
		{ins(0), []int{2}}, {ins(14, 3), []int{2}}, {ins(-7, 3), []int{2}}, {ins(math.MaxInt, 3), []int{2}}, {ins(math.MinInt), []int{2}},
	} {
		l := code(ret(), c.i, ret())
		for _, behind := range [][]api.SIns{l, l[:2]} {
			if got := stack.Next(behind, 1); !slices.Equal(got, c.want) {
				t.Errorf("%v: %v, not %v", c.i, got, c.want)
			}
		}
		for _, at := range []int{-1, 3, 4, 1000, math.MinInt, math.MaxInt} {
			if got := stack.Next(l, at); len(got) != 0 {
				t.Errorf("%v at %d: %v", c.i, at, got)
			}
		}
	}
	if len(stack.Next(nil, 0)) != 0 || len(stack.Next(code(), 0)) != 0 || len(stack.Next(nil, -1)) != 0 {
		t.Error("Next of no code")
	}
	great := make([]api.SIns, 1<<20)
	if l := stack.Next(great, 1<<20-1); !slices.Equal(l, []int{1 << 20}) {
		t.Error(l)
	}
}

func TestNextAnswersNewMemory(t *testing.T) {
	l := code(brz(7), jump(0), brz(1), konst(0))
	for at := range l {
		a, b := stack.Next(l, at), stack.Next(l, at)
		kept := slices.Clone(b)
		for i := range a[:cap(a)] {
			a[:cap(a)][i] = -77
		}
		if !slices.Equal(b, kept) || !slices.Equal(stack.Next(l, at), kept) {
			t.Error(at, b)
		}
	}
	if !slices.Equal(l, code(brz(7), jump(0), brz(1), konst(0))) {
		t.Error("the code is changed")
	}
}

// Promise 7.3: the text of a program.

func TestText(t *testing.T) {
	for _, c := range []struct {
		p    api.Prog
		want string
	}{
		{api.Prog{}, ""}, {api.Prog{Main: 7}, ""}, {api.Prog{Fns: []api.SFn{}}, ""},
		{api.Prog{Fns: []api.SFn{{}}}, "fn 0 0 0\n"},
		{api.Prog{Fns: []api.SFn{{Name: "main", Params: 1, Locals: 2, Consts: []api.Value{val.Int(7)}}}, Main: 3}, "fn 0 1 2\n"},
		{api.Prog{Fns: []api.SFn{{Code: code(konst(0), out(), konst(1), ret())}}}, "fn 0 0 0\n0 1 0 0\n1 11 0 0\n2 1 1 0\n3 10 0 0\n"},
		{api.Prog{Fns: []api.SFn{{Locals: 64, Code: code(tick(4095), call(12, 3))}, {Params: 8, Locals: 8}, {Params: 2, Locals: 3, Code: code(brz(7))}}}, "fn 0 0 64\n0 12 4095 0\n1 9 12 3\nfn 1 8 8\nfn 2 2 3\n0 8 7 0\n"},
		{api.Prog{Fns: []api.SFn{{Params: -1, Locals: math.MinInt, Code: code(ins(math.MaxInt, math.MinInt, -1))}}}, "fn 0 -1 -9223372036854775808\n0 9223372036854775807 -9223372036854775808 -1\n"},
	} {
		if got := stack.Text(c.p); got != c.want {
			t.Errorf("%s: %q", short(c.p), got)
		}
	}
}

func TestTextOfMany(t *testing.T) {
	p := api.Prog{Fns: make([]api.SFn, 300)}
	p.Fns[299].Code = slices.Repeat(code(jump(5)), 2000)
	var want strings.Builder
	for n, f := range p.Fns {
		fmt.Fprintln(&want, "fn", n, f.Params, f.Locals)
		for at, i := range f.Code {
			fmt.Fprintln(&want, at, i.Op, i.A, i.B)
		}
	}
	if got := stack.Text(p); got != want.String() {
		t.Error(short(got))
	}
}
