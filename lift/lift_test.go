package lift_test

import (
	"fmt"
	"math"
	"reflect"
	"slices"
	"strings"
	"testing"

	"ratline/api"
	"ratline/gen"
	"ratline/lift"
	"ratline/val"
)

// ins is an instruction: its Op, and as many of A and B as are told.
func ins(op int, l ...int) api.SIns {
	l = append(l, 0, 0)
	return api.SIns{Op: op, A: l[0], B: l[1]}
}

func konst(a int) api.SIns { return ins(api.SConst, a) }
func load(a int) api.SIns  { return ins(api.SLoad, a) }
func store(a int) api.SIns { return ins(api.SStore, a) }
func pop() api.SIns        { return ins(api.SPop) }
func bin(op int) api.SIns  { return ins(api.SBin, op) }
func un(op int) api.SIns   { return ins(api.SUn, op) }
func jump(a int) api.SIns  { return ins(api.SJump, a) }
func brz(a int) api.SIns   { return ins(api.SBrz, a) }
func ret() api.SIns        { return ins(api.SRet) }
func out() api.SIns        { return ins(api.SOut) }
func tick(n int) api.SIns  { return ins(api.STick, n) }
func list(n int) api.SIns  { return ins(api.SList, n) }

func call(fn, args int) api.SIns { return ins(api.SCall, fn, args) }

func code(l ...api.SIns) []api.SIns     { return l }
func row(l ...[]api.SIns) []api.SIns    { return slices.Concat(l...) }
func values(l ...api.Value) []api.Value { return l }

// short is what is told of a thing that may be great.
func short(x any) string {
	s := fmt.Sprint(x)
	if len(s) > 600 {
		s = s[:600] + " .."
	}
	return s
}

// insText is an instruction with what its Op has, and that alone.
func insText(i api.RIns) (string, api.RIns) {
	switch i.Op {
	case 1:
		return fmt.Sprint("const ", i.D, " = ", val.Show(i.K)), api.RIns{Op: 1, D: i.D, K: i.K}
	case 2:
		return fmt.Sprint("mov ", i.D, " ", i.A), api.RIns{Op: 2, D: i.D, A: i.A}
	case 3:
		return fmt.Sprint("bin", i.N, " ", i.D, " ", i.A, " ", i.B), api.RIns{Op: 3, D: i.D, A: i.A, B: i.B, N: i.N}
	case 4:
		return fmt.Sprint("un", i.N, " ", i.D, " ", i.A), api.RIns{Op: 4, D: i.D, A: i.A, N: i.N}
	case 5:
		return fmt.Sprint("call", i.N, " ", i.D, " ", i.L), api.RIns{Op: 5, D: i.D, N: i.N, L: i.L}
	case 6:
		return fmt.Sprint("out ", i.A), api.RIns{Op: 6, A: i.A}
	case 7:
		return fmt.Sprint("tick", i.N), api.RIns{Op: 7, N: i.N}
	case 8:
		return fmt.Sprint("list ", i.D, " ", i.L), api.RIns{Op: 8, D: i.D, L: i.L}
	}
	return "odd", api.RIns{}
}

func termText(e api.RTerm) (string, api.RTerm) {
	switch e.Kind {
	case 1:
		return fmt.Sprint("jump ", e.To), api.RTerm{Kind: 1, To: e.To}
	case 2:
		return fmt.Sprint("br ", e.A, " ", e.To, " ", e.Else), api.RTerm{Kind: 2, A: e.A, To: e.To, Else: e.Else}
	case 3:
		return fmt.Sprint("ret ", e.A), api.RTerm{Kind: 3, A: e.A}
	}
	return "odd", api.RTerm{}
}

// tell is register code as a text: its instructions parted by ; and its blocks by |. One that has something that its Op or Kind does not have is odd.
func tell(f api.RFn) string {
	var blocks []string
	for _, b := range f.Blocks {
		var l []string
		for _, i := range b.Ins {
			s, own := insText(i)
			if fmt.Sprint(i) != fmt.Sprint(own) {
				s = fmt.Sprint("odd", i)
			}
			l = append(l, s)
		}
		s, own := termText(b.Term)
		if b.Term != own {
			s = fmt.Sprint("odd", b.Term)
		}
		blocks = append(blocks, strings.Join(append(l, s), "; "))
	}
	return strings.Join(blocks, " | ")
}

// program is one whose main (2 locals, 2 constants) has that code; beside it f of 1 parameter, g of 8, and h of none.
func program(l ...api.SIns) api.Prog {
	nils := values(val.Nil())
	back := code(konst(0), ret())
	return api.Prog{Fns: []api.SFn{
		{Name: "main", Locals: 2, Consts: values(val.Int(1), val.Text("a")), Code: l},
		{Name: "f", Params: 1, Locals: 1, Consts: nils, Code: back},
		{Name: "g", Params: 8, Locals: 9, Consts: nils, Code: back},
		{Name: "h", Consts: nils, Code: back},
	}}
}

// expect asks what p's first function is lifted to.
func expect(t *testing.T, p api.Prog, regs int, leaders []int, want string) {
	t.Helper()
	f, e := lift.Fn(p, 0)
	if got := tell(f); e != api.OK || got != want || f.Regs != regs || f.Name != p.Fns[0].Name || f.Params != p.Fns[0].Params {
		t.Errorf("Fn of %s: %s %d %d, %d\n%s\nwant %d\n%s", short(p.Fns[0]), f.Name, f.Params, f.Regs, e, short(got), regs, short(want))
	}
	if l, e := lift.Leaders(p, 0); e != api.OK || !slices.Equal(l, leaders) {
		t.Errorf("Leaders of %s: %v, %d, want %v", short(p.Fns[0]), l, e, leaders)
	}
	q, e := lift.Program(p)
	if e != api.OK || q.Main != p.Main || len(q.Fns) != len(p.Fns) || !reflect.DeepEqual(q.Fns[0], f) {
		t.Errorf("Program of %s: %s, %d", short(p), short(q), e)
	}
}

// expectLine asks what code of one block is lifted to, behind as many constants as make its height, up to an SRet of the highest register but one.
func expectLine(t *testing.T, height int, l []api.SIns, left int, want string) {
	t.Helper()
	p := program(row(slices.Repeat(code(konst(1)), height), l, code(konst(0), ret()))...)
	f, e := lift.Fn(p, 0)
	ahead := ""
	for k := range height {
		ahead += fmt.Sprintf("const %d = \"a\"; ", 2+k)
	}
	if want != "" {
		want += "; "
	}
	if got := tell(f); e != api.OK || got != fmt.Sprintf("%s%sconst %d = 1; ret %d", ahead, want, 2+left, 2+left) {
		t.Errorf("%v at %d: %s, %d, want %s", l, height, got, e, want)
	}
}

// Promises 11.1, 11.2: each instruction of the table by itself, at height 0 (or the least it may stand at) and higher.
func TestEachInstruction(t *testing.T) {
	registers := func(from, to int) string {
		var l []int
		for r := from; r <= to; r++ {
			l = append(l, r)
		}
		return fmt.Sprint(l)
	}
	for h := range 12 {
		k := 2 + h // the first register that is free
		expectLine(t, h, code(konst(0)), h+1, fmt.Sprint("const ", k, " = 1"))
		expectLine(t, h, code(konst(1)), h+1, fmt.Sprint("const ", k, ` = "a"`))
		expectLine(t, h, code(load(0)), h+1, fmt.Sprint("mov ", k, " 0"))
		expectLine(t, h, code(load(1)), h+1, fmt.Sprint("mov ", k, " 1"))
		expectLine(t, h, code(tick(1)), h, "tick1")
		expectLine(t, h, code(tick(4095)), h, "tick4095")
		expectLine(t, h, code(tick(7), call(3, 0)), h+1, fmt.Sprint("tick7; call3 ", k, " []"))
		expectLine(t, h, code(tick(7), call(0, 0)), h+1, fmt.Sprint("tick7; call0 ", k, " []"))
		if h >= 1 {
			expectLine(t, h, code(store(0)), h-1, fmt.Sprint("mov 0 ", k-1))
			expectLine(t, h, code(store(1)), h-1, fmt.Sprint("mov 1 ", k-1))
			expectLine(t, h, code(pop()), h-1, "")
			expectLine(t, h, code(out()), h-1, fmt.Sprint("out ", k-1))
			for op := api.ONeg; op <= api.OConj; op++ {
				expectLine(t, h, code(un(op)), h, fmt.Sprint("un", op, " ", k-1, " ", k-1))
			}
			expectLine(t, h, code(tick(2), call(1, 1)), h, fmt.Sprint("tick2; call1 ", k-1, " ", registers(k-1, k-1)))
		}
		for op := api.OAdd; op <= api.OCx && h >= 2; op++ {
			expectLine(t, h, code(bin(op)), h-1, fmt.Sprint("bin", op, " ", k-2, " ", k-2, " ", k-1))
		}
		if h >= 8 {
			expectLine(t, h, code(tick(3), call(2, 8)), h-7, fmt.Sprint("tick3; call2 ", k-8, " ", registers(k-8, k-1)))
		}
		for n := range h + 1 {
			expectLine(t, h, code(list(n)), h-n+1, fmt.Sprint("list ", k-n, " ", registers(k-n, k-1)))
		}
		for n := range h + 1 {
			expectLine(t, h, slices.Repeat(code(pop()), n), h-n, "")
		}
	}
}

// The ends, too, at several heights.
func TestEachEnd(t *testing.T) {
	for h := range 9 {
		ahead := slices.Repeat(code(konst(0)), h)
		first := ""
		for k := range h {
			first += fmt.Sprintf("const %d = 1; ", 2+k)
		}
		top := 2 + h
		expect(t, program(row(ahead, code(konst(1), ret()))...), top+1, []int{0}, fmt.Sprintf("%sconst %d = \"a\"; ret %d", first, top, top))
		expect(t, program(row(ahead, code(jump(h+2), pop(), konst(1), ret()))...), top+1, []int{0, h + 2}, fmt.Sprintf("%sjump 1 | const %d = \"a\"; ret %d", first, top, top))
		expect(t, program(row(ahead, code(load(1), brz(h+4), konst(0), ret(), konst(1), ret()))...), top+1, []int{0, h + 2, h + 4}, fmt.Sprintf("%smov %d 1; br %d 1 2 | const %d = 1; ret %d | const %d = \"a\"; ret %d", first, top, top, top, top, top, top))
	}
}

func TestExample(t *testing.T) {
	p := api.Prog{Fns: []api.SFn{{Consts: values(val.Int(5)), Code: code(konst(0), ret())}}}
	f, e := lift.Fn(p, 0)
	want := api.RFn{Regs: 1, Blocks: []api.RBlock{{Ins: []api.RIns{{Op: api.RConst, D: 0, K: val.Int(5)}}, Term: api.RTerm{Kind: api.TRet, A: 0}}}}
	if e != api.OK || !reflect.DeepEqual(f, want) {
		t.Error(f, e)
	}
}

// Promise 11.2: where blocks begin and end, and where they lead.
func TestBlocks(t *testing.T) {
	c := konst(0)
	for _, x := range []struct {
		code    []api.SIns
		regs    int
		leaders []int
		want    string
	}{
		// jumps ahead, back, to each other, to the next one
		{code(jump(1), c, ret()), 3, []int{0, 1}, "jump 1 | const 2 = 1; ret 2"},
		{code(jump(3), c, ret(), jump(1)), 3, []int{0, 1, 3}, "jump 2 | const 2 = 1; ret 2 | jump 1"},
		{code(jump(2), jump(3), jump(1), c, ret()), 3, []int{0, 1, 2, 3}, "jump 2 | jump 3 | jump 1 | const 2 = 1; ret 2"},
		{code(c, jump(3), pop(), ret()), 3, []int{0, 3}, "const 2 = 1; jump 1 | ret 2"},
		// branches: To is the next block, Else where it leads
		{code(c, brz(4), c, ret(), load(0), ret()), 3, []int{0, 2, 4}, "const 2 = 1; br 2 1 2 | const 2 = 1; ret 2 | mov 2 0; ret 2"},
		{code(c, brz(4), c, jump(5), load(0), ret()), 3, []int{0, 2, 4, 5}, "const 2 = 1; br 2 1 2 | const 2 = 1; jump 3 | mov 2 0; jump 3 | ret 2"},
		{code(c, brz(3), tick(1), c, ret()), 3, []int{0, 2, 3}, "const 2 = 1; br 2 1 2 | tick1; jump 2 | const 2 = 1; ret 2"},
		{code(c, load(0), brz(4), un(api.OLen), ret()), 4, []int{0, 3, 4}, "const 2 = 1; mov 3 0; br 3 1 2 | un17 2 2; jump 2 | ret 2"},
		{code(jump(4), c, ret(), c, c, brz(1), load(1), ret()), 3, []int{0, 1, 4, 6}, "jump 2 | const 2 = 1; ret 2 | const 2 = 1; br 2 3 1 | mov 2 1; ret 2"},
		// a branch to the instruction right behind it
		{code(c, brz(2), c, ret()), 3, []int{0, 2}, "const 2 = 1; br 2 1 1 | const 2 = 1; ret 2"},
		{code(c, c, brz(3), brz(4), c, ret()), 4, []int{0, 3, 4}, "const 2 = 1; const 3 = 1; br 3 1 1 | br 2 2 2 | const 2 = 1; ret 2"},
		// a leader right behind another
		{code(c, brz(3), tick(1), tick(2), c, ret()), 3, []int{0, 2, 3}, "const 2 = 1; br 2 1 2 | tick1; jump 2 | tick2; const 2 = 1; ret 2"},
		{code(jump(1), jump(2), jump(3), c, ret()), 3, []int{0, 1, 2, 3}, "jump 1 | jump 2 | jump 3 | const 2 = 1; ret 2"},
		{code(c, c, brz(5), brz(6), c, pop(), c, ret()), 4, []int{0, 3, 4, 5, 6}, "const 2 = 1; const 3 = 1; br 3 1 3 | br 2 2 4 | const 2 = 1; jump 3 | jump 4 | const 2 = 1; ret 2"},
		// loops: back to the first instruction, to the middle, to itself
		{code(tick(7), c, brz(0), c, ret()), 3, []int{0, 3}, "tick7; const 2 = 1; br 2 1 0 | const 2 = 1; ret 2"},
		{code(tick(7), jump(0)), 2, []int{0}, "tick7; jump 0"},
		{code(jump(1), tick(7), jump(0)), 2, []int{0, 1}, "jump 1 | tick7; jump 0"},
		{code(jump(1), tick(7), jump(1)), 2, []int{0, 1}, "jump 1 | tick7; jump 1"},
		{code(c, tick(1), load(1), brz(1), ret()), 4, []int{0, 1, 4}, "const 2 = 1; jump 1 | tick1; mov 3 1; br 3 2 1 | ret 2"},
		{code(load(0), brz(6), c, out(), tick(1), jump(0), c, ret()), 3, []int{0, 2, 6}, "mov 2 0; br 2 1 2 | const 2 = 1; out 2; tick1; jump 0 | const 2 = 1; ret 2"},
		// what is not come to, behind, between and at the end; jumps there lead to no block
		{code(c, ret(), pop(), jump(1)), 3, []int{0}, "const 2 = 1; ret 2"},
		{code(jump(3), c, brz(0), c, ret()), 3, []int{0, 3}, "jump 1 | const 2 = 1; ret 2"},
		{code(c, brz(5), c, ret(), jump(6), c, ret()), 3, []int{0, 2, 5}, "const 2 = 1; br 2 1 2 | const 2 = 1; ret 2 | const 2 = 1; ret 2"},
		{code(c, brz(6), c, ret(), c, brz(3), c, ret()), 3, []int{0, 2, 6}, "const 2 = 1; br 2 1 2 | const 2 = 1; ret 2 | const 2 = 1; ret 2"},
		{code(c, jump(4), ret(), brz(1), ret(), jump(4)), 3, []int{0, 4}, "const 2 = 1; jump 1 | ret 2"},
		// an SPop ends nothing, and a block may hold nothing
		{code(c, pop(), c, ret()), 3, []int{0}, "const 2 = 1; const 2 = 1; ret 2"},
		{code(c, c, brz(5), pop(), jump(6), pop(), c, ret()), 4, []int{0, 3, 5, 6}, "const 2 = 1; const 3 = 1; br 3 1 2 | jump 3 | jump 3 | const 2 = 1; ret 2"},
		// calls and lists of none, and of some
		{code(tick(1), call(3, 0), list(0), list(2), ret()), 4, []int{0}, "tick1; call3 2 []; list 3 []; list 2 [2 3]; ret 2"},
		{code(c, load(1), tick(1), call(1, 1), bin(1), ret()), 4, []int{0}, "const 2 = 1; mov 3 1; tick1; call1 3 [3]; bin1 2 2 3; ret 2"},
	} {
		expect(t, program(x.code...), x.regs, x.leaders, x.want)
	}
}

// expectError asks what Fn and Leaders, and what Program answer, with nothing beside it.
func expectError(t *testing.T, p api.Prog, fn int, one, all api.Errno) {
	t.Helper()
	if f, e := lift.Fn(p, fn); e != one || !reflect.DeepEqual(f, api.RFn{}) {
		t.Errorf("Fn %d of %s: %s, %d, want %d", fn, short(p), short(f), e, one)
	}
	if l, e := lift.Leaders(p, fn); e != one || l != nil {
		t.Errorf("Leaders %d of %s: %s, %d, want %d", fn, short(p), short(l), e, one)
	}
	if q, e := lift.Program(p); e != all || e != api.OK && !reflect.DeepEqual(q, api.RProg{}) {
		t.Errorf("Program of %s: %s, %d, want %d", short(p), short(q), e, all)
	}
}

// Promise 11.2: Regs is Virtual, at least 1.
func TestRegs(t *testing.T) {
	for _, x := range []struct {
		locals, regs int
		code         []api.SIns
	}{
		{0, 1, code(tick(1), jump(0))}, {1, 1, code(tick(1), jump(0))}, {2, 2, code(tick(1), jump(0))}, {64, 64, code(tick(1), jump(0))},
		{0, 1, code(konst(0), ret())}, {1, 2, code(konst(0), ret())}, {0, 2, code(konst(0), konst(0), ret())}, {0, 1, code(konst(0), ret(), konst(0), konst(0))},
		{0, 64, row(slices.Repeat(code(konst(0)), 64), code(ret()))}, {64, 128, row(slices.Repeat(code(konst(0)), 64), code(ret()))}, {64, 128, row(slices.Repeat(code(konst(0)), 64), code(list(64), ret()))}, {63, 127, row(slices.Repeat(code(konst(0)), 64), code(bin(1), ret()))},
	} {
		p := api.Prog{Fns: []api.SFn{{Locals: x.locals, Consts: values(val.Nil()), Code: x.code}}}
		if f, e := lift.Fn(p, 0); e != api.OK || f.Regs != x.regs {
			t.Error(short(x), f.Regs, e)
		}
	}
	// 128 is the most that sound code can need: one more value, or one more local, and it is sound no more.
	p := api.Prog{Fns: []api.SFn{{Locals: 64, Consts: values(val.Nil()), Code: row(slices.Repeat(code(konst(0)), 65), code(ret()))}}}
	expectError(t, p, 0, api.ErrStack, api.ErrStack)
	p.Fns[0].Locals, p.Fns[0].Code = 65, p.Fns[0].Code[1:]
	expectError(t, p, 0, api.ErrForm, api.ErrForm)
	p.Fns[0].Locals = 201
	expectError(t, p, 0, api.ErrForm, api.ErrForm)
}

// Promise 11.2: names and parameters are the function's.
func TestNamesAndParams(t *testing.T) {
	for _, name := range []string{"", "main", "x y", "\xff\x00", strings.Repeat("x", 1<<16)} {
		for params := range 9 {
			p := api.Prog{Fns: []api.SFn{{}, {Name: name, Params: params, Locals: params + params%3, Consts: values(val.Int(3)), Code: code(konst(0), ret())}}}
			f, e := lift.Fn(p, 1)
			at := params + params%3
			if e != api.OK || f.Name != name || f.Params != params || f.Regs != at+1 || tell(f) != fmt.Sprint("const ", at, " = 3; ret ", at) {
				t.Error(short(f), e)
			}
		}
	}
}

// Promise 11.2: what is not sound is refused, function by function, by each error of stack.
func TestErrors(t *testing.T) {
	good, c := code(konst(0), ret()), konst(0)
	bad := map[api.Errno][][]api.SIns{
		api.ErrForm:  {nil, code(), code(konst(2), ret()), code(konst(-1), ret()), code(c, ret(), load(2)), code(c, ret(), ins(14)), code(c, ret(), ins(0)), code(jump(1)), code(c, brz(-1), c, ret()), code(c, ret(), bin(15)), code(c, un(1), ret()), code(tick(0), c, ret()), code(tick(4096), c, ret()), code(list(65), ret()), code(tick(1), call(4, 0), ret()), code(tick(1), call(1, 0), ret()), code(c, ins(api.SRet, 1)), code(ins(api.SConst, 0, 1), ret()), slices.Repeat(good, 501)},
		api.ErrStack: {code(c), code(pop()), code(ret()), code(tick(1)), code(c, pop()), code(c, brz(3), c, c, ret()), code(c, tick(1), jump(0)), code(c, bin(1), ret()), code(list(1), ret()), row(slices.Repeat(code(c), 65), code(ret())), code(tick(1), call(1, 1), ret())},
		api.ErrTick:  {code(jump(0)), code(jump(1), jump(0)), code(c, brz(0), c, ret()), code(call(3, 0), ret()), code(tick(1), c, call(1, 1), ret()), code(c, brz(3), tick(1), call(3, 0), ret()), code(tick(1), jump(1))},
	}
	for e, l := range bad {
		for _, x := range l {
			expectError(t, program(x...), 0, e, e)
			for f, m := range bad {
				p := program(good...)
				p.Fns[1] = api.SFn{Params: 1, Locals: 1, Consts: values(val.Nil()), Code: m[0]}
				p.Fns[3].Locals, p.Fns[3].Consts, p.Fns[3].Code = 2, values(val.Nil(), val.Nil()), x
				expectError(t, p, 3, e, f) // the first function that errs is the second one
			}
		}
	}
}

// One function's errors are not another's, where it is lifted by itself.
func TestOthersAreNotAsked(t *testing.T) {
	for _, other := range []api.SFn{{}, {Params: 99}, {Code: code(pop())}, {Code: code(jump(0))}, {Consts: values(api.Value{Kind: 9}), Code: code(konst(0), ret())}} {
		p := program(konst(0), load(1), list(2), ret())
		p.Fns[2] = other
		f, e := lift.Fn(p, 0)
		if got := tell(f); e != api.OK || got != "const 2 = 1; mov 3 1; list 2 [2 3]; ret 2" {
			t.Error(got, e)
		}
		if l, e := lift.Leaders(p, 0); e != api.OK || !slices.Equal(l, []int{0}) {
			t.Error(l, e)
		}
		if q, e := lift.Program(p); e == api.OK || q.Fns != nil {
			t.Error(q, e)
		}
	}
}

func TestNoSuchFunction(t *testing.T) {
	for _, fn := range []int{-1, 4, 5, 100, math.MinInt, math.MaxInt} {
		expectError(t, program(konst(0), ret()), fn, api.ErrForm, api.OK)
	}
	for _, fn := range []int{-1, 0, 1} {
		expectError(t, api.Prog{}, fn, api.ErrForm, api.ErrForm)
		expectError(t, api.Prog{Fns: []api.SFn{}}, fn, api.ErrForm, api.ErrForm)
	}
}

// Promise 11.2: Program asks what stack.Check asks.
func TestPrograms(t *testing.T) {
	for _, main := range []int{-1, 1, 2, 4, 99, math.MinInt, math.MaxInt} { // 1 and 2 have Params
		p := program(konst(0), ret())
		p.Main = main
		if q, e := lift.Program(p); e != api.ErrForm || !reflect.DeepEqual(q, api.RProg{}) {
			t.Error(main, q, e)
		}
		// Fn and Leaders do not ask for Main, nor how many functions there are.
		p.Fns = slices.Repeat(p.Fns, 5)
		f, e := lift.Fn(p, 19)
		if l, el := lift.Leaders(p, 19); e != api.OK || tell(f) != "const 0 = nil; ret 0" || el != api.OK || len(l) != 1 {
			t.Error(f, e, l, el)
		}
	}
	for n := range 19 {
		for main := range n {
			p := api.Prog{Main: main}
			for fn := range n {
				p.Fns = append(p.Fns, api.SFn{Name: fmt.Sprint("f", fn), Locals: fn, Consts: values(val.Int(int64(fn))), Code: code(konst(0), ret())})
			}
			q, e := lift.Program(p)
			if n > 16 {
				if e != api.ErrForm || !reflect.DeepEqual(q, api.RProg{}) {
					t.Error(n, main, e)
				}
				continue
			}
			if e != api.OK || q.Main != main || len(q.Fns) != n {
				t.Fatal(n, main, q, e)
			}
			for fn, f := range q.Fns {
				if f.Name != p.Fns[fn].Name || f.Regs != fn+1 || tell(f) != fmt.Sprintf("const %d = %d; ret %d", fn, fn, fn) {
					t.Error(n, fn, f)
				}
			}
		}
	}
}

// Each kind of constant.
func TestConstants(t *testing.T) {
	all := values(val.Nil(), val.Int(math.MinInt64), val.Int(0), val.Cx(-2.5+1i), val.Text(""), val.Text(strings.Repeat("x", 999)), val.List(nil), val.List(values(val.List(values(val.Int(1), val.Nil())), val.Text("a"))), val.List(slices.Repeat(values(val.Int(7)), 999)))
	for at, v := range all {
		p := api.Prog{Fns: []api.SFn{{Consts: all, Code: code(konst(at), ret())}}}
		f, e := lift.Fn(p, 0)
		if e != api.OK || len(f.Blocks) != 1 || len(f.Blocks[0].Ins) != 1 || !val.Same(f.Blocks[0].Ins[0].K, v) || !val.Ok(f.Blocks[0].Ins[0].K) {
			t.Error(short(v), short(f), e)
		}
	}
}

// Promise 11.2: programs made of texts.
func TestSources(t *testing.T) {
	for s, want := range map[string]string{
		"fn main() { }":                                                 "const 0 = nil; ret 0",
		"fn main() { print 1; }":                                        "const 0 = 1; out 0; const 0 = nil; ret 0",
		"fn main() { return []; }":                                      "list 0 []; ret 0",
		"fn main() { let x = 2; x = -x + 3; 7; }":                       "const 1 = 2; mov 0 1; mov 1 0; un15 1 1; const 2 = 3; bin1 1 1 2; mov 0 1; const 1 = 7; const 1 = nil; ret 1",
		"fn main() { let i = 0; while i < 9 { i = i + 1; } }":           "const 1 = 0; mov 0 1; jump 1 | mov 1 0; const 2 = 9; bin8 1 1 2; br 1 2 3 | mov 1 0; const 2 = 1; bin1 1 1 2; mov 0 1; tick1; jump 1 | const 1 = nil; ret 1",
		"fn main() { if nil { print 1; } else { print 2; } return 3; }": "const 0 = nil; br 0 1 2 | const 0 = 1; out 0; jump 3 | const 0 = 2; out 0; jump 3 | const 0 = 3; ret 0",
		"fn main() { if 1 { return 2; } }":                              "const 0 = 1; br 0 1 2 | const 0 = 2; ret 0 | const 0 = nil; ret 0",
		"fn main() { while 1 { } }":                                     "const 0 = 1; br 0 1 2 | tick1; jump 0 | const 0 = nil; ret 0",
		"fn main() { return f(1, [2, 3], g()); } fn f(a, b, c) { return b; } fn g() { } ": "const 0 = 1; const 1 = 2; const 2 = 3; list 1 [1 2]; tick1; call2 2 []; tick2; call1 0 [0 1 2]; ret 0",
		"fn main() { return; print 1; while 1 { print 2; } }":                             "const 0 = nil; ret 0",
		"fn main() { while 1 { break; print 5; } print \"b\"[0]; }":                       "const 0 = 1; br 0 1 2 | jump 2 | const 0 = \"b\"; const 1 = 0; bin12 0 0 1; out 0; const 0 = nil; ret 0",
	} {
		p, at, e := gen.Source(s)
		if e != api.OK {
			t.Fatal(s, at, e)
		}
		f, e := lift.Fn(p, 0)
		if got := tell(f); e != api.OK || got != want {
			t.Errorf("%s: %s, %d", s, got, e)
		}
	}
	p, _, _ := gen.Source("fn f(a, b) { return b; return a; } fn main() { print f(1, 2); }")
	q, e := lift.Program(p)
	if e != api.OK || q.Main != 1 || len(q.Fns) != 2 || q.Fns[0].Name != "f" || q.Fns[0].Params != 2 || q.Fns[0].Regs != 3 || tell(q.Fns[0]) != "mov 2 1; ret 2" || q.Fns[1].Name != "main" || q.Fns[1].Regs != 2 || tell(q.Fns[1]) != "const 0 = 1; const 1 = 2; tick1; call0 0 [0 1]; out 0; const 0 = nil; ret 0" {
		t.Error(q, e)
	}
}
