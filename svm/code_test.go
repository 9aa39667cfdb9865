package svm_test

import (
	"fmt"
	"math"
	"reflect"
	"slices"
	"strconv"
	"strings"
	"testing"

	"ratline/api"
	"ratline/ops"
	"ratline/stack"
	"ratline/svm"
	"ratline/val"
)

// ins is an instruction: its Op, and as many of A and B as are told.
func ins(op int, l ...int) api.SIns {
	l = append(l, 0, 0)
	return api.SIns{Op: op, A: l[0], B: l[1]}
}

func konst(a int) api.SIns { return ins(api.SConst, a) }
func load(a int) api.SIns  { return ins(api.SLoad, a) }
func store(a int) api.SIns { return ins(api.SStore, a) }
func pop() api.SIns        { return ins(api.SPop) }
func bin(op int) api.SIns  { return ins(api.SBin, op) }
func un(op int) api.SIns   { return ins(api.SUn, op) }
func jump(a int) api.SIns  { return ins(api.SJump, a) }
func brz(a int) api.SIns   { return ins(api.SBrz, a) }
func ret() api.SIns        { return ins(api.SRet) }
func out() api.SIns        { return ins(api.SOut) }
func tick(n int) api.SIns  { return ins(api.STick, n) }
func list(n int) api.SIns  { return ins(api.SList, n) }

func call(fn, args int) api.SIns { return ins(api.SCall, fn, args) }

func code(l ...api.SIns) []api.SIns     { return l }
func row(l ...[]api.SIns) []api.SIns    { return slices.Concat(l...) }
func values(l ...api.Value) []api.Value { return l }

// short is what is told of a thing that may be great.
func short(x any) string {
	s := fmt.Sprint(x)
	if len(s) > 300 {
		s = s[:300] + " .."
	}
	return s
}

// tell is a trace as a text: each tick as t and its number, each output as it is shown, and behind = the value and how the run ended.
func tell(x api.Trace) string {
	var s strings.Builder
	for _, e := range x.Events {
		switch {
		case e.Kind == api.ETick && isZero(e.V):
			s.WriteString("t" + strconv.Itoa(e.N) + " ")
		case e.Kind == api.EOut && e.N == 0 && val.Ok(e.V):
			s.WriteString(val.Show(e.V) + " ")
		default:
			fmt.Fprint(&s, "odd", e, " ")
		}
	}
	return s.String() + "= " + val.Show(x.V) + " " + strconv.Itoa(int(x.E))
}

func isZero(v api.Value) bool {
	return v.Kind == 0 && v.N == 0 && v.Z == 0 && v.S == "" && v.L == nil
}

// expect asks what a run of p tells.
func expect(t *testing.T, p api.Prog, fuel int, want string) {
	t.Helper()
	x, e := svm.Run(p, fuel)
	if got := tell(x); e != api.OK || got != want {
		t.Errorf("%s with %d: %s, %d, want %s", short(p), fuel, short(got), e, short(want))
	}
}

// program is one whose main (3 locals) has that code and those constants; beside it f of 1 parameter, which gives it back with a 1 behind it in a list, g of 3, which gives all in a list, h of none and nothing, which prints 5.
func program(consts []api.Value, l ...api.SIns) api.Prog {
	return api.Prog{Main: 2, Fns: []api.SFn{
		{Name: "f", Params: 1, Locals: 1, Consts: values(val.Int(1)), Code: code(load(0), konst(0), list(2), ret())},
		{Name: "g", Params: 3, Locals: 4, Code: code(load(0), load(1), load(2), load(3), list(4), ret())},
		{Name: "main", Locals: 3, Consts: consts, Code: l},
		{Name: "h", Consts: values(val.Int(5), val.Nil()), Code: code(konst(0), out(), konst(1), ret())},
	}}
}

// Promise 9.1: each kind of instruction, by what it does to the stack, the locals and the events.

func TestInstructions(t *testing.T) {
	consts := values(val.Int(7), val.Text("ab"), val.Nil(), val.List(values(val.Int(2), val.Int(3))), val.Int(0), val.Int(2))
	seven, ab, none, two, nought := konst(0), konst(1), konst(2), konst(5), konst(4)
	for _, c := range []struct {
		code []api.SIns
		want string
	}{
		// constants, and what is returned
		{code(seven, ret()), "= 7 0"}, {code(ab, ret()), `= "ab" 0`}, {code(none, ret()), "= nil 0"}, {code(konst(3), ret()), "= [2, 3] 0"}, {code(seven, ab, ret()), `= "ab" 0`}, {code(seven, two, ab, none, ret()), "= nil 0"},
		// locals
		{code(load(0), ret()), "= nil 0"}, {code(load(2), ret()), "= nil 0"}, {code(seven, store(1), load(1), ret()), "= 7 0"}, {code(seven, store(1), load(0), load(1), load(2), list(3), ret()), "= [nil, 7, nil] 0"}, {code(seven, store(0), ab, store(2), load(0), load(2), list(2), ret()), `= [7, "ab"] 0`}, {code(seven, store(0), ab, store(0), load(0), load(0), list(2), ret()), `= ["ab", "ab"] 0`}, {code(seven, two, store(1), load(1), list(2), ret()), "= [7, 2] 0"},
		{code(seven, store(0), load(0), two, store(0), load(0), list(2), ret()), "= [7, 2] 0"}, {code(seven, store(0), load(0), store(1), none, store(0), load(0), load(1), list(2), ret()), "= [nil, 7] 0"},
		// what is popped
		{code(seven, ab, pop(), ret()), "= 7 0"}, {code(seven, pop(), ab, ret()), `= "ab" 0`}, {code(seven, two, ab, pop(), pop(), ret()), "= 7 0"},
		// ops: the second operand is on top
		{code(seven, two, bin(api.OSub), ret()), "= 5 0"}, {code(two, seven, bin(api.OSub), ret()), "= -5 0"}, {code(ab, nought, bin(api.OGet), ret()), `= "a" 0`}, {code(konst(3), ab, bin(api.OPush), ret()), `= [2, 3, "ab"] 0`}, {code(ab, seven, two, bin(api.OMul), list(2), ret()), `= ["ab", 14] 0`}, {code(seven, un(api.ONeg), ret()), "= -7 0"}, {code(ab, un(api.OLen), ret()), "= 2 0"}, {code(ab, none, un(api.ONot), list(2), ret()), `= ["ab", 1] 0`},
		// jumps
		{code(jump(2), ret(), ab, ret()), `= "ab" 0`}, {code(seven, jump(4), pop(), two, ret()), "= 7 0"}, {code(jump(3), seven, ret(), jump(1)), "= 7 0"}, {code(seven, brz(4), ab, ret(), two, ret()), `= "ab" 0`}, {code(nought, brz(4), ab, ret(), two, ret()), "= 2 0"}, {code(two, nought, brz(4), un(api.ONeg), ret()), "= 2 0"}, {code(two, seven, brz(4), un(api.ONeg), ret()), "= -2 0"}, {code(nought, brz(2), seven, ret()), "= 7 0"}, {code(seven, brz(2), seven, ret()), "= 7 0"},
		// a loop of three rounds
		{code(load(0), un(api.ONot), brz(5), konst(4), store(0), load(0), out(), tick(9), load(0), two, bin(api.OAdd), store(0), load(0), two, two, bin(api.OMul), bin(api.OGt), brz(0), load(0), ret()), "0 t9 2 t9 4 t9 = 6 0"},
		// calls
		{code(seven, tick(1), call(0, 1), ret()), "t1 = [7, 1] 0"}, {code(tick(1), call(3, 0), ret()), "t1 5 = nil 0"}, {code(seven, ab, none, tick(4), call(1, 3), ret()), `t4 = [7, "ab", nil, nil] 0`}, {code(two, seven, tick(1), call(0, 1), list(2), ret()), "t1 = [2, [7, 1]] 0"}, {code(two, seven, ab, none, tick(1), call(1, 3), seven, list(3), ret()), `t1 = [2, [7, "ab", nil, nil], 7] 0`}, {code(seven, tick(1), call(0, 1), tick(2), call(0, 1), ret()), "t1 t2 = [[7, 1], 1] 0"}, {code(seven, store(0), load(0), tick(1), call(0, 1), store(1), load(0), load(1), load(2), list(3), ret()), "t1 = [7, [7, 1], nil] 0"}, {code(two, tick(1), call(3, 0), list(2), ret()), "t1 5 = [2, nil] 0"},
		// events
		{code(seven, out(), ab, out(), none, out(), konst(3), out(), nought, ret()), `7 "ab" nil [2, 3] = 0 0`}, {code(tick(1), tick(4095), tick(1), seven, ret()), "t1 t4095 t1 = 7 0"}, {code(two, seven, out(), tick(3), ret()), "7 t3 = 2 0"},
		// lists: the first value deepest
		{code(list(0), ret()), "= [] 0"}, {code(seven, list(1), ret()), "= [7] 0"}, {code(seven, two, ab, list(3), ret()), `= [7, 2, "ab"] 0`}, {code(seven, two, ab, list(2), list(2), ret()), `= [7, [2, "ab"]] 0`}, {code(seven, list(0), list(2), ret()), "= [7, []] 0"},
		// what is not come to
		{code(seven, ret(), konst(0), pop(), pop(), jump(2)), "= 7 0"}, {code(seven, ret(), call(3, 0)), "= 7 0"},
	} {
		expect(t, program(consts, c.code...), 20, c.want)
	}
}

func TestExample(t *testing.T) {
	p := api.Prog{Fns: []api.SFn{{Name: "main", Consts: values(val.Int(1), val.Nil()), Code: code(konst(0), out(), konst(1), ret())}}}
	x, e := svm.Run(p, 9)
	if want := (api.Trace{Events: []api.Event{{Kind: 2, V: val.Int(1)}}}); e != api.OK || !reflect.DeepEqual(x, want) {
		t.Error(x, e)
	}
}

// samples are values of each kind, false ones and true ones.
func samples() []api.Value {
	return values(val.Nil(), val.Int(0), val.Int(1), val.Int(-3), val.Int(math.MaxInt64), val.Int(math.MinInt64), val.Cx(0), val.Cx(2-1i), val.Cx(1e308), val.Text(""), val.Text("a"), val.Text("b\x00"), val.Text(strings.Repeat("x", 600)), val.List(nil), val.List(values(val.Nil())), val.List(values(val.Int(1), val.Text("a"), val.List(nil))), val.List(slices.Repeat(values(val.Int(5)), 600)))
}

// opCode is code that tells 7, does op with the constants 0 and 1 (with 1 alone, if it takes one) on top of another value, and tells what came and that value.
func opCode(op int) []api.SIns {
	if op < api.ONeg {
		return code(konst(2), out(), konst(2), konst(0), konst(1), bin(op), out(), ret())
	}
	return code(konst(2), out(), konst(2), konst(1), un(op), out(), ret())
}

func done(op int, a, b api.Value) (api.Value, api.Run) {
	if op < api.ONeg {
		return ops.Binary(op, a, b)
	}
	return ops.Unary(op, b)
}

// Every op with all values does what ops does, and ends the run where ops errs: with that error, the events ahead of it, and no value.
func TestEveryOp(t *testing.T) {
	ends := map[api.Run]int{}
	for op := api.OAdd; op <= api.OConj; op++ {
		for _, a := range samples() {
			for _, b := range samples() {
				v, r := done(op, a, b)
				want := "7 " + val.Show(v) + " = 7 0"
				if r != api.ROK {
					want = fmt.Sprint("7 = nil ", int(r))
				}
				expect(t, program(values(a, b, val.Int(7)), opCode(op)...), 9, want)
				ends[r]++
			}
		}
	}
	for r := api.ROK; r <= api.RRange; r++ {
		if ends[r] == 0 {
			t.Errorf("no op ended with %d", r)
		}
	}
}

func TestTruths(t *testing.T) {
	for _, v := range samples() {
		want := "= 1 0"
		if !val.Truth(v) {
			want = "= 0 0"
		}
		expect(t, program(values(v, val.Int(0), val.Int(1)), konst(0), brz(4), konst(2), ret(), konst(1), ret()), 0, want)
	}
	for shown, want := range map[string]string{"nil": "0", "0": "0", `""`: "0", "[]": "0", "<0000000000000000,0000000000000000>": "0", "-1": "1", `"0"`: "1", "[0]": "1", "[[]]": "1", "<0000000000000000,3ff0000000000000>": "1"} {
		v, ok := val.Read(shown)
		if !ok {
			t.Fatal(shown)
		}
		expect(t, program(values(v, val.Int(0), val.Int(1)), konst(0), brz(4), konst(2), ret(), konst(1), ret()), 0, "= "+want+" 0")
	}
}

// Operands are the first locals, the first one deepest, those behind them are nil; the caller's values stand as they stood.
func TestOperandsInTheirOrder(t *testing.T) {
	for params := range 9 {
		for _, locals := range []int{params, params + 1, 64} {
			var f []api.SIns
			for k := range locals {
				f = append(f, load(k))
			}
			f = append(f, list(locals), ret())
			main, want, all := code(konst(9)), "t3 = [90", values()
			for k := range 10 {
				all = append(all, val.Int(int64(k*10)))
			}
			var given []string
			for k := range locals {
				if k >= params {
					given = append(given, "nil")
					continue
				}
				given = append(given, fmt.Sprint(k*10))
				main = append(main, konst(k))
			}
			main = append(main, tick(3), call(0, params), konst(9), list(3), ret())
			want += ", [" + strings.Join(given, ", ") + "], 90] 0"
			p := api.Prog{Main: 1, Fns: []api.SFn{{Params: params, Locals: locals, Code: f}, {Consts: all, Code: main}}}
			expect(t, p, 1, want)
		}
	}
}

// Locals are nil at first, in the second call of a function too, and where other values stood.
func TestLocalsAreNilAtFirst(t *testing.T) {
	f := api.SFn{Params: 1, Locals: 3, Consts: values(val.Int(8), val.Nil()), Code: code(load(1), out(), load(2), out(), load(0), store(1), konst(0), store(2), konst(0), store(0), load(1), load(2), load(0), list(3), ret())}
	consts := values(val.Int(1), val.Int(2), val.Text("x"))
	many := slices.Repeat(code(konst(2)), 20)
	for _, c := range []struct {
		main []api.SIns
		want string
	}{
		{code(konst(0), tick(1), call(1, 1), out(), konst(1), tick(2), call(1, 1), ret()), "t1 nil nil [1, 8, 8] t2 nil nil = [2, 8, 8] 0"},
		{row(many, code(konst(0), tick(1), call(1, 1), out()), slices.Repeat(code(pop()), 20), code(konst(1), tick(2), call(1, 1), ret())), "t1 nil nil [1, 8, 8] t2 nil nil = [2, 8, 8] 0"},
		{row(many, slices.Repeat(code(pop()), 20), code(konst(0), tick(1), call(1, 1), ret())), "t1 nil nil = [1, 8, 8] 0"},
		{row(many, code(tick(1), call(2, 0), pop(), konst(0), tick(2), call(1, 1), ret())), "t1 t2 nil nil = [1, 8, 8] 0"},
	} {
		full := api.SFn{Locals: 9, Consts: consts, Code: row(many, slices.Repeat(code(konst(1), store(3)), 3), code(ret()))}
		expect(t, api.Prog{Fns: []api.SFn{{Consts: consts, Code: c.main}, f, full}}, 20, c.want)
	}
	// a function that calls itself: each call has its own
	own := api.SFn{Params: 1, Locals: 2, Consts: values(val.Int(1)), Code: code(load(1), out(), load(0), store(1), load(0), brz(12), load(0), konst(0), bin(api.OSub), tick(5), call(1, 1), out(), load(0), load(1), list(2), ret())}
	p := api.Prog{Fns: []api.SFn{{Consts: consts, Code: code(konst(1), tick(1), call(1, 1), ret())}, own}}
	expect(t, p, 20, "t1 nil t5 nil t5 nil [0, 0] [1, 1] = [2, 2] 0")
}

// What a call leaves behind what it returns is dropped.
func TestReturnsFromAHighStack(t *testing.T) {
	consts := values(val.Int(1), val.Int(2), val.Int(3))
	for n := range 63 {
		f := api.SFn{Params: 2, Locals: 5, Consts: consts, Code: row(slices.Repeat(code(konst(0)), n), code(konst(1), ret()))}
		main := api.SFn{Locals: 1, Consts: consts, Code: code(konst(2), konst(0), konst(0), tick(1), call(0, 2), konst(2), konst(2), tick(2), call(0, 2), list(3), ret())}
		expect(t, api.Prog{Main: 1, Fns: []api.SFn{f, main}}, 2, "t1 t2 = [3, 2, 2] 0")
	}
}

// Main is any of the functions; it may be called as others are.
func TestMainIsAnyFunction(t *testing.T) {
	for n := 1; n <= 16; n++ {
		for main := range n {
			p := api.Prog{Main: main}
			for fn := range n {
				p.Fns = append(p.Fns, api.SFn{Name: "main", Consts: values(val.Int(int64(fn))), Code: code(konst(0), ret())})
			}
			expect(t, p, 0, fmt.Sprintf("= %d 0", main))
		}
	}
	expect(t, api.Prog{Fns: []api.SFn{{Locals: 1, Code: code(load(0), out(), tick(2), call(0, 0), ret())}}}, 7, "nil t2 nil t2 nil t2 nil = nil 6")
}

// The whole of a stack: 64 values in one list.
func TestGreatestStack(t *testing.T) {
	var consts []api.Value
	var l []api.SIns
	var want []string
	for k := range 64 {
		consts = append(consts, val.Int(int64(k)))
		l = append(l, konst(k))
		want = append(want, fmt.Sprint(k))
	}
	p := program(consts, append(l, list(64), ret())...)
	if e := stack.Check(p); e != api.OK {
		t.Fatal(e)
	}
	expect(t, p, 0, "= ["+strings.Join(want, ", ")+"] 0")
	// a call on top of it: f stands above 63 values of main's
	expect(t, program(consts, append(l, tick(1), call(0, 1), list(64), ret())...), 1, "t1 = ["+strings.Join(want[:63], ", ")+", [63, 1]] 0")
}
