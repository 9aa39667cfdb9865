package sim_test

import (
	"fmt"
	"slices"
	"strings"
	"testing"

	"ratline/api"
	"ratline/val"
)

// Promise 12.1, Run: each error ends the run, with the events ahead of it and no value.

func text(n int) api.Value { return val.Text(strings.Repeat("x", n)) }

func listOf(n int) api.Value { return val.List(slices.Repeat(values(val.Int(5)), n)) }

func deepList(n int) api.Value {
	v := val.Int(1)
	for range n {
		v = val.List(values(v))
	}
	return v
}

func TestEachError(t *testing.T) {
	one, empty, far := val.Int(1), val.List(nil), val.Cx(1e300+1e300i)
	for _, c := range []struct {
		e    api.Run
		a, b api.Value
		i    api.RIns
	}{
		{api.RKind, one, val.Nil(), bin(api.OAdd, 2, 0, 1)}, {api.RKind, empty, empty, bin(api.OLt, 2, 0, 1)}, {api.RKind, one, one, un(api.OLen, 2, 0)}, {api.RKind, val.Nil(), one, un(api.ONeg, 2, 0)}, {api.RKind, one, one, bin(api.OPush, 2, 0, 1)},
		{api.RZero, one, val.Int(0), bin(api.ODiv, 2, 0, 1)}, {api.RZero, one, val.Int(0), bin(api.OMod, 2, 0, 1)}, {api.RZero, one, val.Cx(0), bin(api.ODiv, 2, 0, 1)},
		{api.RIndex, empty, val.Int(0), bin(api.OGet, 2, 0, 1)}, {api.RIndex, val.Text("a"), one, bin(api.OGet, 2, 0, 1)}, {api.RIndex, val.Text("a"), val.Int(-1), bin(api.OGet, 2, 0, 1)},
		{api.RBig, text(500), text(500), bin(api.OAdd, 2, 0, 1)}, {api.RBig, listOf(999), empty, bin(api.OPush, 2, 0, 1)}, {api.RBig, empty, deepList(24), bin(api.OPush, 2, 0, 1)}, {api.RBig, text(500), text(498), list(2, 0, 1)}, {api.RBig, deepList(24), one, list(2, 1, 0)},
		{api.RRange, far, far, bin(api.OMul, 2, 0, 1)}, {api.RRange, val.Cx(1e308), val.Cx(1e-320), bin(api.ODiv, 2, 0, 1)},
	} {
		l := code(konst(0, c.a), konst(1, c.b), out(3), c.i, out(3), tick(1))
		expect(t, line(0, l...), 9, fmt.Sprintf("nil = nil %d", c.e))
		// it ends all open calls
		p := program(fn(0, 1, block(ret(0), tick(7), call(1, 0), out(0))), fn(0, 1, block(ret(0), tick(8), call(2, 0), out(0))), fn(0, 6, block(ret(0), l...)))
		expect(t, p, 9, fmt.Sprintf("t7 t8 nil = nil %d", c.e))
		// in a way that is not gone nothing errs
		p = mainOf(block(br(0, 1, 2)), block(ret(0), l...), block(ret(0)))
		expect(t, p, 9, "= nil 0")
	}
}

// What errs first ends the run.
func TestFirstErrorOfARun(t *testing.T) {
	kind, zero := un(api.OLen, 2, 0), bin(api.ODiv, 2, 0, 1)
	ahead := code(number(0, 1), number(1, 0))
	expect(t, line(0, row(ahead, code(kind, zero))...), 9, "= nil 1")
	expect(t, line(0, row(ahead, code(zero, kind))...), 9, "= nil 2")
	expect(t, mainOf(block(jump(1), ahead...), block(jump(2), zero), block(ret(0), kind)), 9, "= nil 2")
	expect(t, mainOf(block(jump(2), ahead...), block(ret(0), zero), block(jump(1), kind)), 9, "= nil 1")
	// an op that errs does not write
	p := program(fn(0, 2, block(ret(0), number(0, 3), out(0), un(api.OLen, 0, 0), out(0))))
	expect(t, p, 9, "3 = nil 1")
}

// expectMade asks that an Ins makes a value of those that stand in registers 0 on, or, if it may not be, ends the run with RBig.
func expectMade(t *testing.T, may bool, l []api.Value, i api.RIns) {
	t.Helper()
	var ahead []api.RIns
	for k, v := range l {
		ahead = append(ahead, konst(k, v))
	}
	want := "= nil 4"
	if may {
		want = "= 0 0"
	}
	i.D = 64
	p := program(fn(0, 65, block(ret(64), row(ahead, code(i, un(api.ONot, 64, 64)))...)))
	expect(t, p, 0, want)
}

// RList: the Size of the whole is 1 and the Sizes of the values, and no more than 24 lists stand within one another.
func TestGreatLists(t *testing.T) {
	nils := func(n int) []api.Value { return make([]api.Value, n) }
	for _, c := range []struct {
		may bool
		l   []api.Value
	}{
		{true, values(text(998))}, {false, values(text(999))}, {true, values(listOf(998))}, {false, values(listOf(999))},
		{true, values(text(500), text(497))}, {false, values(text(500), text(498))}, {true, append(nils(63), text(935))}, {false, append(nils(63), text(936))}, {true, append(values(text(935)), nils(63)...)}, {false, append(values(text(936)), nils(63)...)},
		{true, values(listOf(400), text(300), listOf(296))}, {false, values(listOf(400), text(300), listOf(297))}, {false, values(listOf(999), listOf(999))},
		{true, values(deepList(23))}, {false, values(deepList(24))}, {true, values(val.Nil(), deepList(23), deepList(22))}, {false, values(deepList(1), val.Nil(), deepList(24))},
	} {
		i := list(0)
		for k := range c.l {
			i.L = append(i.L, k)
		}
		expectMade(t, c.may, c.l, i)
	}
	for n := 1; n < 65; n++ { // one value many times
		i, size := api.RIns{Op: api.RList, L: make([]int, n)}, 999/n
		expectMade(t, true, values(text(size-1)), i)
		expectMade(t, false, values(text(size)), i)
	}
	for n := 1; n < 25; n++ {
		expectMade(t, n < 24, values(deepList(n)), list(0, 0))
		expectMade(t, n < 24, values(val.List(nil), deepList(n)), bin(api.OPush, 0, 0, 1))
	}
	for n := 997; n < 1003; n++ {
		expectMade(t, n <= 999, values(text(500), text(n-500)), bin(api.OAdd, 0, 0, 1))
		expectMade(t, n <= 999, values(listOf(500), listOf(n-500)), bin(api.OAdd, 0, 0, 1))
	}
}
