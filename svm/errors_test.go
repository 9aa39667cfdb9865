package svm_test

import (
	"fmt"
	"math"
	"reflect"
	"slices"
	"strings"
	"testing"

	"ratline/api"
	"ratline/svm"
	"ratline/val"
)

// Promise 9.1: every error of an op ends the run, with the events ahead of it and no value.

func TestErrorsOfOps(t *testing.T) {
	for e, l := range map[api.Run][]string{
		api.RKind:  {"1 + nil", "nil + nil", "1 + \"a\"", "\"a\" + [1]", "[] - []", "\"a\" * 2", "nil / 1", "1 % 2i", "\"a\" % \"b\"", "1 < \"a\"", "1i <= 2i", "nil > nil", "[] >= []", "1[0]", "nil[0]", "[1][nil]", "\"a\"[0i]", "push(nil, 1)", "push(\"a\", \"b\")", "cx(1, nil)", "cx(1i, 1)", "-nil", "-\"a\"", "-[]", "len(1)", "len(nil)", "re(nil)", "im(\"\")", "conj([1])"},
		api.RZero:  {"1 / 0", "0 / 0", "1 % 0", "1i / 0", "1 / 0i", "cx(1, 2) / cx(0, 0)"},
		api.RIndex: {"[][0]", "[1][1]", "[1][0 - 1]", "\"\"[0]", "\"ab\"[2]", "\"ab\"[-1]", "[1, 2][9223372036854775807]"},
		api.RBig:   {"big + \"x\"", "[big]", "[1, big]", "push([], big)", "push([1], big)", "[big, big, big]"},
		api.RRange: {"far * far", "far * far * 1i", "(far * -1) * far"},
	} {
		for _, s := range l {
			s = "fn bad(big, far) { print 2; return " + s + "; } fn main() { print 1; let r = bad(\"BIG\", \"FAR\"); print 3; return 4; }"
			expect(t, withBigAndFar(t, s), 50, fmt.Sprintf("1 t1 2 = nil %d", e))
		}
	}
}

// withBigAndFar is the code of s with a text of the greatest Size in the place of "BIG", and a great number of two parts in that of "FAR".
func withBigAndFar(t *testing.T, s string) api.Prog {
	t.Helper()
	p := sourceCode(t, s)
	for _, f := range p.Fns {
		for i, v := range f.Consts {
			switch v.S {
			case "BIG":
				f.Consts[i] = text(999)
			case "FAR":
				f.Consts[i] = val.Cx(1e300 + 1e300i)
			}
		}
	}
	return p
}

// An error ends all open calls.
func TestErrorsWithinCalls(t *testing.T) {
	const s = "fn f(n) { print n; if n == 0 { return 1 / n; } let r = f(n - 1); print r; return r; } fn main() { print 9; return f(3); }"
	expectSource(t, s, 100, "9 t2 3 t1 2 t1 1 t1 0 = nil 2")
	expectSource(t, s, 9, "9 t2 3 t1 2 t1 1 t1 0 = nil 2")
	expectSource(t, s, 8, "9 t2 3 t1 2 t1 1 t1 = nil 6")
	// operands are evaluated from left to right: the first one that errs
	expectSource(t, "fn main() { return [1, 1 / 0, len(5)]; }", 1, "= nil 2")
	expectSource(t, "fn main() { return [1, len(5), 1 / 0]; }", 1, "= nil 1")
	expectSource(t, "fn f(a, b) { return 1; } fn main() { return f([][0], 1 / 0); }", 1, "= nil 3")
	expectSource(t, "fn f(a) { print 1; return a; } fn main() { return f(1) + f(\"a\") + f(2); }", 9, "t1 1 t2 1 = nil 1")
}

// Promise 9.1: stack.Check's error, and nothing beside it.

func expectRefused(t *testing.T, e api.Errno, p api.Prog) {
	t.Helper()
	for _, fuel := range []int{math.MinInt, 0, 1, 100, math.MaxInt} {
		if x, got := svm.Run(p, fuel); got != e || !reflect.DeepEqual(x, api.Trace{}) {
			t.Errorf("%s: %s, %d, want %d", short(p), short(x), got, e)
		}
	}
}

func TestCodeThatIsRefused(t *testing.T) {
	c := konst(0)
	for e, l := range map[api.Errno][][]api.SIns{
		api.ErrForm:  {nil, code(konst(1), ret()), code(konst(-1), ret()), code(load(3), ret()), code(c, store(-1), c, ret()), code(c, un(1), ret()), code(c, c, bin(15), ret()), code(c, c, bin(0), ret()), code(jump(2), ret()), code(c, brz(-1), c, ret()), code(tick(1), call(5, 0), ret()), code(tick(1), call(0, 0), ret()), code(c, tick(1), call(-1, 1), ret()), code(tick(0), c, ret()), code(tick(4096), c, ret()), code(list(65), ret()), code(list(-1), ret()), code(ins(0), c, ret()), code(ins(14), c, ret()), code(c, ins(api.SRet, 1)), code(c, ins(api.SOut, 0, 1), c, ret()), code(c, ret(), ins(99)), slices.Repeat(code(c, ret()), 501)},
		api.ErrStack: {code(pop()), code(ret()), code(c), code(c, out()), code(bin(1), ret()), code(c, bin(1), ret()), code(un(15), ret()), code(c, list(2), ret()), code(tick(1), call(0, 1), ret()), code(c, jump(0)), code(c, brz(3), c, c, ret()), code(store(0), c, ret()), append(slices.Repeat(code(c), 65), ret())},
		api.ErrTick:  {code(jump(0)), code(c, pop(), jump(0)), code(c, brz(0), c, ret()), code(c, call(0, 1), ret()), code(call(3, 0), ret()), code(c, brz(3), tick(1), call(3, 0), ret()), code(tick(1), jump(1))},
	} {
		for _, bad := range l {
			expectRefused(t, e, program(values(val.Int(1)), bad...))
			// where it is never called, too
			p := program(values(val.Int(1)), c, ret())
			p.Fns = append(p.Fns, api.SFn{Locals: 3, Consts: values(val.Int(1)), Code: bad})
			expectRefused(t, e, p)
		}
	}
}

func TestProgramsThatAreRefused(t *testing.T) {
	good := program(values(val.Int(1)), konst(0), ret())
	change := func(f func(p *api.Prog)) api.Prog {
		p := good
		p.Fns = slices.Clone(good.Fns)
		f(&p)
		return p
	}
	for _, p := range []api.Prog{
		{}, {Main: -1}, {Fns: []api.SFn{}},
		change(func(p *api.Prog) { p.Main = -1 }), change(func(p *api.Prog) { p.Main = 4 }), change(func(p *api.Prog) { p.Main = math.MaxInt }), change(func(p *api.Prog) { p.Main = math.MinInt }),
		change(func(p *api.Prog) { p.Main = 0 }), change(func(p *api.Prog) { p.Main = 1 }),
		change(func(p *api.Prog) { p.Fns = append(p.Fns, slices.Repeat(p.Fns[3:], 13)...) }),
		change(func(p *api.Prog) { p.Fns[2].Locals = -1 }), change(func(p *api.Prog) { p.Fns[2].Locals = 65 }), change(func(p *api.Prog) { p.Fns[0].Params = 2 }), change(func(p *api.Prog) { p.Fns[1].Params = 9; p.Fns[1].Locals = 9 }),
		change(func(p *api.Prog) { p.Fns[2].Consts = values(api.Value{Kind: 5}) }), change(func(p *api.Prog) { p.Fns[2].Consts = values(val.Int(1), api.Value{N: 3}) }), change(func(p *api.Prog) {
			p.Fns[2].Consts = values(val.Int(1), api.Value{Kind: api.VText, S: strings.Repeat("x", 1000)})
		}), change(func(p *api.Prog) { p.Fns[3].Consts = values(val.Int(1), val.Nil(), holdsItself()) }), change(func(p *api.Prog) { p.Fns[2].Consts = values(api.Value{Kind: api.VCx, Z: complex(math.Inf(1), 0)}) }),
	} {
		expectRefused(t, api.ErrForm, p)
	}
	expect(t, good, 0, "= 1 0")
	expect(t, change(func(p *api.Prog) { p.Fns = append(p.Fns, slices.Repeat(p.Fns[3:], 12)...) }), 0, "= 1 0")
	// the first error of the functions' order
	expectRefused(t, api.ErrTick, change(func(p *api.Prog) { p.Fns[1].Code = code(jump(0)); p.Fns[3].Code = nil }))
	expectRefused(t, api.ErrStack, change(func(p *api.Prog) { p.Fns[1].Code = code(pop()); p.Fns[2].Code = code(jump(0)) }))
}

// holdsItself is a list that has itself in it.
func holdsItself() api.Value {
	v := api.Value{Kind: api.VList, L: make([]api.Value, 2)}
	v.L[1] = v
	return v
}
