package stack_test

import (
	"math"
	"math/rand"
	"reflect"
	"slices"
	"sync"
	"testing"

	"ratline/api"
	"ratline/stack"
	"ratline/val"
)

// Promise 7.5: every call ends and none panics.

func callAll(p api.Prog, fn int) {
	stack.Check(p)
	stack.Heights(p, fn)
	stack.Virtual(p, fn)
	stack.Text(p)
	for _, f := range p.Fns {
		for at, i := range f.Code {
			stack.Pops(i)
			stack.Pushes(i)
			stack.Next(f.Code, at)
		}
		stack.Next(f.Code, fn)
	}
}

func TestRawPrograms(t *testing.T) {
	r := rand.New(rand.NewSource(75))
	far := []int{math.MinInt, math.MinInt + 1, -1 << 40, -65, -1, 0, 1, 2, 3, 8, 9, 10, 12, 13, 14, 64, 65, 1000, 4095, 4096, 1 << 40, math.MaxInt - 1, math.MaxInt}
	some := func() int { return far[r.Intn(len(far))] }
	for range 20000 {
		p := api.Prog{Main: some(), Fns: make([]api.SFn, r.Intn(4))}
		for n := range p.Fns {
			f := api.SFn{Params: r.Intn(2) * some(), Locals: r.Intn(2)*some() + r.Intn(2), Consts: make([]api.Value, r.Intn(3)), Code: make([]api.SIns, r.Intn(6))}
			for i := range f.Code {
				f.Code[i] = api.SIns{Op: r.Intn(14), A: some(), B: r.Intn(2) * some()}
			}
			p.Fns[n] = f
		}
		callAll(p, some())
		expectRead(t, p)
	}
}

func TestGreatPrograms(t *testing.T) {
	consts := make([]api.Value, 1<<18)
	for i := range consts {
		consts[i] = val.Int(int64(i))
	}
	p := program(konst(1<<18-1), ret())
	p.Fns[0].Consts = consts
	expect(t, p, []int{0, 1}, 3, api.OK)
	consts[1<<18-1] = holdsItself()
	expectError(t, api.ErrForm, p)
	many := api.Prog{Fns: make([]api.SFn, 1<<18)}
	many.Fns[1<<18-1] = api.SFn{Code: code(list(0), ret())}
	if h, e := stack.Heights(many, 1<<18-1); e != api.OK || !slices.Equal(h, []int{0, 1}) {
		t.Error(h, e)
	}
	if e := stack.Check(many); e != api.ErrForm {
		t.Error(e)
	}
	if n := len(stack.Text(many)); n < 1<<20 {
		t.Error(n)
	}
	callAll(api.Prog{Fns: []api.SFn{{Code: make([]api.SIns, 1<<18)}}}, 0)
}

// Of a thousand instructions each second one leads to both of two ways, all of which meet.
func TestManyWays(t *testing.T) {
	var l []api.SIns
	for at := 0; at < 998; at += 2 {
		l = append(l, konst(0), brz(max(at+2, 998-at%14)))
	}
	l = append(l, konst(0), ret())
	expect(t, program(l...), slices.Repeat([]int{0, 1}, 500), 3, api.OK)
	l[997] = brz(0)
	expectError(t, api.ErrTick, program(l...))
	l[997] = brz(1)
	expectError(t, api.ErrStack, program(l...))
}

// whole is a program with spare room behind its lists.
func whole() api.Prog {
	p := program(konst(0), brz(5), konst(1), tick(3), jump(6), load(1), ret())
	p.Fns = append(p.Fns, api.SFn{Name: "spare"})[:len(p.Fns)]
	p.Fns[0].Consts = append(p.Fns[0].Consts, val.Int(77))[:2]
	p.Fns[0].Code = append(p.Fns[0].Code, out())[:7]
	return p
}

func spares(p api.Prog) []any {
	return []any{p.Fns[:cap(p.Fns)], p.Fns[0].Consts[:cap(p.Fns[0].Consts)], p.Fns[0].Code[:cap(p.Fns[0].Code)]}
}

func TestNothingIsChanged(t *testing.T) {
	p, q := whole(), whole()
	for fn := -1; fn < 5; fn++ {
		callAll(p, fn)
	}
	if !reflect.DeepEqual(p, q) || !reflect.DeepEqual(spares(p), spares(q)) {
		t.Error(short(p))
	}
}

func TestHeightsAnswersNewMemory(t *testing.T) {
	p := whole()
	a, _ := stack.Heights(p, 0)
	b, _ := stack.Heights(p, 0)
	kept := slices.Clone(b)
	for i := range a[:cap(a)] {
		a[:cap(a)][i] = 99
	}
	c, e := stack.Heights(p, 0)
	if !slices.Equal(b, kept) || !slices.Equal(c, kept) || e != api.OK {
		t.Error(a, b, c)
	}
}

// The same call answers the same, whoever else calls.
func TestCallsAtOnce(t *testing.T) {
	p := whole()
	want, _ := stack.Heights(p, 0)
	text := stack.Text(p)
	var all sync.WaitGroup
	for range 8 {
		all.Go(func() {
			for range 200 {
				h, e := stack.Heights(p, 0)
				if e != api.OK || !slices.Equal(h, want) || stack.Text(p) != text || stack.Check(p) != api.OK {
					t.Error(h, e)
				}
			}
		})
	}
	all.Wait()
}
