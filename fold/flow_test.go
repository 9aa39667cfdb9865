package fold_test

import (
	"math"
	"reflect"
	"slices"
	"strings"
	"testing"

	"ratline/api"
	"ratline/fold"
	"ratline/sim"
	"ratline/val"
)

// Promise 14.2: Analyse and Run, told here by hand.

// toldStates has of each block its cells, or - of one that is not Reached.
func toldStates(t *testing.T, l []fold.State, regs int) string {
	t.Helper()
	var words []string
	for n, s := range l {
		if len(s.Cells) != regs {
			t.Fatal(n, len(s.Cells), regs)
		}
		if s.Reached {
			words = append(words, "["+told(s.Cells)+"]")
			continue
		}
		for _, c := range s.Cells {
			if !reflect.DeepEqual(c, nothing()) {
				t.Fatal(n, "is not Reached, and has", told(s.Cells))
			}
		}
		words = append(words, "-")
	}
	return strings.Join(words, " ")
}

func expect(t *testing.T, f api.RFn, states string, want api.RFn) {
	t.Helper()
	if s := toldStates(t, fold.Analyse(f), f.Regs); s != states {
		t.Errorf("Analyse of %s: %s, want %s", short(f), short(s), short(states))
	}
	if g := fold.Run(f); !reflect.DeepEqual(plain(g), plain(want)) {
		t.Errorf("Run of %s: %s, want %s", short(f), short(g), short(want))
	}
}

// expectLine asks for Run of a function of one block whose registers are nil at first.
func expectLine(t *testing.T, end api.RTerm, l, want []api.RIns) {
	t.Helper()
	f := fn(0, 4, block(end, l...))
	expect(t, f, "[nil nil nil nil]", fn(0, 4, block(end, want...)))
}

func TestExample(t *testing.T) {
	expect(t, fn(0, 1, block(ret(0), number(0, 2), bin(api.OAdd, 0, 0, 0))), "[nil]", fn(0, 1, block(ret(0), number(0, 2), number(0, 4))))
}

func TestLines(t *testing.T) {
	expectLine(t, ret(0), nil, nil)
	expectLine(t, ret(0), code(mov(0, 1)), code(konst(0, val.Nil())))
	expectLine(t, ret(0), code(mov(0, 0)), code(konst(0, val.Nil())))
	expectLine(t, ret(0), code(number(0, 3), mov(1, 0), mov(2, 1), out(2)), code(number(0, 3), number(1, 3), number(2, 3), out(2)))
	expectLine(t, ret(0), code(un(api.ONot, 0, 1), un(api.ONeg, 1, 0), bin(api.OSub, 2, 0, 1)), code(number(0, 1), number(1, -1), number(2, 2)))
	expectLine(t, ret(0), code(number(0, 1), list(1, 0, 3), list(2), list(3, 1, 1)), code(number(0, 1), konst(1, read("[1, nil]")), konst(2, read("[]")), konst(3, read("[[1, nil], [1, nil]]"))))
	// what errs stays, and nothing is known of it; what is made of it stays too
	expectLine(t, ret(0), code(bin(api.OAdd, 0, 1, 2), mov(3, 0), un(api.ONot, 1, 0), list(2, 2)), code(bin(api.OAdd, 0, 1, 2), mov(3, 0), un(api.ONot, 1, 0), konst(2, read("[nil]"))))
	expectLine(t, ret(0), code(number(0, 1), number(1, 0), bin(api.ODiv, 0, 0, 1), mov(2, 0), mov(2, 1)), code(number(0, 1), number(1, 0), bin(api.ODiv, 0, 0, 1), mov(2, 0), number(2, 0)))
	// a call's answer is anything; what stands beside it is known
	expectLine(t, ret(0), code(number(1, 5), tick(1), call(0, 0, 1), bin(api.OAdd, 2, 0, 1), bin(api.OAdd, 3, 1, 1), mov(0, 3)), code(number(1, 5), tick(1), call(0, 0, 1), bin(api.OAdd, 2, 0, 1), number(3, 10), number(0, 10)))
	// counted up in its place
	expectLine(t, ret(0), code(number(0, 1), bin(api.OAdd, 0, 0, 0), bin(api.OAdd, 0, 0, 0), bin(api.OMul, 0, 0, 0)), code(number(0, 1), number(0, 2), number(0, 4), number(0, 16)))
	// two that change places by a third
	expectLine(t, ret(0), code(number(0, 1), number(1, 2), mov(2, 0), mov(0, 1), mov(1, 2)), code(number(0, 1), number(1, 2), number(2, 1), number(0, 2), number(1, 1)))
}

func read(s string) api.Value {
	v, ok := val.Read(s)
	if !ok {
		panic(s)
	}
	return v
}

// Params are anything; the other registers are nil.
func TestParams(t *testing.T) {
	l := code(mov(3, 0), mov(3, 1), mov(3, 2), un(api.ONot, 3, 0))
	for params, want := range []string{"[nil nil nil nil]", "[? nil nil nil]", "[? ? nil nil]", "[? ? ? nil]", "[? ? ? ?]"} {
		g := slices.Clone(l)
		for k := range 3 {
			if k >= params {
				g[k] = konst(3, val.Nil())
			}
		}
		if params == 0 {
			g[3] = number(3, 1)
		}
		expect(t, fn(params, 4, block(ret(3), l...)), want, fn(params, 4, block(ret(3), g...)))
	}
	expect(t, fn(8, 8, block(ret(7), mov(7, 7))), "[? ? ? ? ? ? ? ?]", fn(8, 8, block(ret(7), mov(7, 7))))
	// a parameter that is written is known
	expect(t, fn(1, 1, block(ret(0), number(0, 4), mov(0, 0))), "[?]", fn(1, 1, block(ret(0), number(0, 4), number(0, 4))))
}

// Deep stays, of what is folded and of what is not; nothing else of what the Ins had does.
func TestDeepStays(t *testing.T) {
	expect(t, fn(1, 3, block(ret(0), deep(1, number(1, 2)), deep(2, mov(2, 1)), deep(3, bin(api.OAdd, 1, 1, 2)), deep(4, un(api.ONeg, 1, 1)), deep(5, list(2, 1, 1)), deep(6, mov(1, 0)), deep(7, out(1)), deep(8, tick(3)), deep(9, call(0, 1)))),
		"[? nil nil]",
		fn(1, 3, block(ret(0), deep(1, number(1, 2)), deep(2, number(2, 2)), deep(3, number(1, 4)), deep(4, number(1, -4)), deep(5, konst(2, read("[-4, -4]"))), deep(6, mov(1, 0)), deep(7, out(1)), deep(8, tick(3)), deep(9, call(0, 1)))))
}

// A branch that is known leads one way, and is a jump.
func TestKnownBranches(t *testing.T) {
	sides := []api.RBlock{block(ret(0), number(0, 1), mov(1, 0)), block(ret(0), number(0, 2), mov(1, 0))}
	folded := []api.RBlock{block(ret(0), number(0, 1), number(1, 1)), block(ret(0), number(0, 2), number(1, 2))}
	for _, v := range distinct() {
		cell := val.Show(v)
		f := fn(0, 2, block(br(0, 1, 2), konst(0, v)), sides[0], sides[1])
		if val.Truth(v) {
			expect(t, f, "[nil nil] ["+cell+" nil] -", fn(0, 2, block(jump(1), konst(0, v)), folded[0], sides[1]))
		} else {
			expect(t, f, "[nil nil] - ["+cell+" nil]", fn(0, 2, block(jump(2), konst(0, v)), sides[0], folded[1]))
		}
	}
	// what no Ins has written is nil
	expect(t, fn(0, 1, block(br(0, 0, 1)), block(ret(0))), "[nil] [nil]", fn(0, 1, block(jump(1)), block(ret(0))))
	// both ways are one
	expect(t, fn(0, 1, block(br(0, 1, 1)), block(ret(0))), "[nil] [nil]", fn(0, 1, block(jump(1)), block(ret(0))))
	// A is asked for behind the Ins: what was known ahead of them does not count
	expect(t, fn(1, 2, block(jump(1), number(1, 1)), block(br(1, 2, 3), mov(1, 0)), block(ret(1)), block(ret(1))), "[? nil] [? 1] [? ?] [? ?]", fn(1, 2, block(jump(1), number(1, 1)), block(br(1, 2, 3), mov(1, 0)), block(ret(1)), block(ret(1))))
	expect(t, fn(1, 2, block(jump(1)), block(br(0, 2, 3), number(0, 0)), block(ret(1)), block(ret(1))), "[? nil] [? nil] - [0 nil]", fn(1, 2, block(jump(1)), block(jump(3), number(0, 0)), block(ret(1)), block(ret(1))))
}

// A branch that is not known leads both ways, and stays.
func TestUnknownBranches(t *testing.T) {
	expect(t, fn(1, 2, block(br(0, 1, 2)), block(ret(1), mov(1, 0)), block(ret(1), mov(1, 1))), "[? nil] [? nil] [? nil]", fn(1, 2, block(br(0, 1, 2)), block(ret(1), mov(1, 0)), block(ret(1), konst(1, val.Nil()))))
	expect(t, fn(1, 2, block(br(0, 1, 1)), block(ret(1))), "[? nil] [? nil]", fn(1, 2, block(br(0, 1, 1)), block(ret(1))))
	// an error is not known either
	l := code(bin(api.OAdd, 0, 0, 0))
	expect(t, fn(0, 1, block(br(0, 1, 2), l...), block(ret(0)), block(ret(0))), "[nil] [?] [?]", fn(0, 1, block(br(0, 1, 2), l...), block(ret(0)), block(ret(0))))
}

// Where ways meet: the Same on both, another one, one that nobody comes by.
func TestMeets(t *testing.T) {
	sides := func(a, b api.RIns) api.RFn {
		return fn(1, 2, block(br(0, 1, 2)), block(jump(3), a), block(jump(3), b), block(ret(1), mov(1, 1)))
	}
	folded := func(f api.RFn, v api.Value) api.RFn {
		f.Blocks = slices.Clone(f.Blocks)
		f.Blocks[3] = block(ret(1), konst(1, v))
		return f
	}
	for _, v := range distinct() {
		f := sides(konst(1, v), konst(1, val.Copy(v)))
		expect(t, f, "[? nil] [? nil] [? nil] [? "+val.Show(v)+"]", folded(f, v))
		for _, w := range distinct() {
			if f = sides(konst(1, v), konst(1, w)); !val.Same(v, w) {
				expect(t, f, "[? nil] [? nil] [? nil] [? ?]", f)
			}
		}
	}
	f := sides(number(1, 3), mov(1, 0))
	expect(t, f, "[? nil] [? nil] [? nil] [? ?]", f)
	f = sides(number(1, 3), tick(1))
	expect(t, f, "[? nil] [? nil] [? nil] [? ?]", f)
	f = sides(konst(1, val.Nil()), tick(1))
	expect(t, f, "[? nil] [? nil] [? nil] [? nil]", folded(f, val.Nil()))
	// a side that a known branch leaves out does not count
	f = sides(number(1, 3), number(1, 4))
	f.Blocks[0].Ins = code(number(0, 0))
	expect(t, f, "[? nil] - [0 nil] [0 4]", fn(1, 2, block(jump(2), number(0, 0)), f.Blocks[1], f.Blocks[2], block(ret(1), number(1, 4))))
	// nor one that is not come to
	f = fn(0, 2, block(jump(2), number(1, 3)), block(jump(2), number(1, 4)), block(ret(1), mov(0, 1)))
	expect(t, f, "[nil nil] - [nil 3]", fn(0, 2, f.Blocks[0], f.Blocks[1], block(ret(1), number(0, 3))))
	// three ways, of which the last one differs
	f = fn(1, 2, block(br(0, 1, 2), number(1, 7)), block(br(0, 3, 4)), block(jump(4)), block(jump(4), number(1, 8)), block(ret(1), mov(1, 1)))
	expect(t, f, "[? nil] [? 7] [? 7] [? 7] [? ?]", f)
}

// Block 0 is met with what leads to it.
func TestBackToTheFirst(t *testing.T) {
	f := fn(1, 3, block(br(0, 0, 1), tick(1), mov(2, 1)), block(ret(2)))
	expect(t, f, "[? nil nil] [? nil nil]", fn(1, 3, block(br(0, 0, 1), tick(1), konst(2, val.Nil())), block(ret(2))))
	f = fn(1, 3, block(br(0, 0, 1), tick(1), mov(2, 1), number(1, 4)), block(ret(1), mov(2, 1)))
	expect(t, f, "[? ? ?] [? 4 ?]", fn(1, 3, f.Blocks[0], block(ret(1), number(2, 4))))
	// a parameter stays anything, though what leads back has a value
	f = fn(1, 1, block(br(0, 1, 1), tick(1)), block(jump(0), number(0, 3), mov(0, 0)))
	expect(t, f, "[?] [?]", fn(1, 1, f.Blocks[0], block(jump(0), number(0, 3), number(0, 3))))
	// what leads to it is itself not come to
	f = fn(0, 1, block(ret(0), mov(0, 0)), block(jump(0), number(0, 3)))
	expect(t, f, "[nil] -", fn(0, 1, block(ret(0), konst(0, val.Nil())), f.Blocks[1]))
	// a known branch that never leads back to it
	f = fn(0, 1, block(br(0, 0, 1), number(0, 0)), block(ret(0), mov(0, 0)))
	expect(t, f, "[nil] [0]", fn(0, 1, block(jump(1), number(0, 0)), block(ret(0), number(0, 0))))
}

func TestLoops(t *testing.T) {
	// i counts, k stays as it is, though each round writes it
	const i, k, q = 0, 1, 2
	f := fn(0, 3,
		block(jump(1), number(i, 0), number(k, 7)),
		block(br(q, 2, 3), bin(api.OLt, q, i, k)),
		block(jump(1), bin(api.OAdd, i, i, k), mov(k, k), mov(q, k), tick(1)),
		block(ret(k), bin(api.OAdd, k, k, k)))
	expect(t, f, "[nil nil nil] [? 7 ?] [? 7 ?] [? 7 ?]", fn(0, 3, f.Blocks[0], f.Blocks[1],
		block(jump(1), bin(api.OAdd, i, i, k), number(k, 7), number(q, 7), tick(1)),
		block(ret(k), number(k, 14))))
	// a loop that is left out, and one that is never left
	f = fn(0, 1, block(jump(1), number(0, 0)), block(br(0, 2, 3), tick(1)), block(jump(1), number(0, 5)), block(ret(0), mov(0, 0)))
	expect(t, f, "[nil] [0] - [0]", fn(0, 1, f.Blocks[0], block(jump(3), tick(1)), f.Blocks[2], block(ret(0), number(0, 0))))
	f.Blocks[0].Ins = code(number(0, 6))
	expect(t, f, "[nil] [?] [?] [?]", f)
	f.Blocks[2].Ins = code(number(0, 6))
	expect(t, f, "[nil] [6] [6] -", fn(0, 1, f.Blocks[0], block(jump(2), tick(1)), f.Blocks[2], f.Blocks[3]))
	// what is known of a round only because the branch within it is known
	f = fn(0, 2,
		block(jump(1), number(0, 1)),
		block(br(0, 2, 3), tick(1)),
		block(jump(1), mov(1, 0)),
		block(jump(1), number(0, 9)))
	expect(t, f, "[nil nil] [1 ?] [1 ?] -", fn(0, 2, f.Blocks[0], block(jump(2), tick(1)), block(jump(1), number(1, 1)), f.Blocks[3]))
}

// Loops within loops: what the innermost changes is not known around it, what it leaves as it is is known within.
func TestLoopsWithinLoops(t *testing.T) {
	f := fn(1, 5,
		block(jump(1), number(1, 0), number(2, 0), number(3, 4)),
		block(br(0, 2, 6), tick(1)),
		block(jump(3), number(2, 0)),
		block(br(0, 4, 5), tick(2)),
		block(jump(3), bin(api.OAdd, 2, 2, 3), mov(4, 3)),
		block(jump(1), bin(api.OAdd, 1, 1, 3), mov(4, 3), mov(3, 4)),
		block(ret(3), mov(4, 1), mov(3, 3)))
	expect(t, f, "[? nil nil nil nil] [? ? ? 4 ?] [? ? ? 4 ?] [? ? ? 4 ?] [? ? ? 4 ?] [? ? ? 4 ?] [? ? ? 4 ?]", fn(1, 5,
		f.Blocks[0], f.Blocks[1], f.Blocks[2], f.Blocks[3],
		block(jump(3), bin(api.OAdd, 2, 2, 3), number(4, 4)),
		block(jump(1), bin(api.OAdd, 1, 1, 3), number(4, 4), number(3, 4)),
		block(ret(3), mov(4, 1), number(3, 4))))
	// one register falls, round by round, because another one does
	f = fn(1, 4,
		block(jump(1), number(1, 1), number(2, 1), number(3, 1)),
		block(br(0, 1, 2), tick(1), mov(3, 2), mov(2, 1), mov(1, 0)),
		block(ret(3)))
	expect(t, f, "[? nil nil nil] [? ? ? ?] [? ? ? ?]", f)
}

// Blocks that are not come to stay as they are, though what they do is known.
func TestBlocksThatAreNotComeTo(t *testing.T) {
	dead := block(br(0, 1, 2), number(0, 1), mov(1, 0), bin(api.OAdd, 1, 0, 0), list(1, 0))
	f := fn(0, 2, block(ret(0)), dead, block(jump(1), mov(0, 0)), block(ret(0), mov(0, 0)))
	expect(t, f, "[nil nil] - - -", f)
	// a circle that nobody comes to
	f = fn(0, 2, block(jump(3)), block(jump(2), number(0, 1)), block(jump(1), mov(0, 0)), block(ret(0)))
	expect(t, f, "[nil nil] - - [nil nil]", f)
}

// One block ahead of another in the list may stand behind it on the way.
func TestBlocksInAnyOrder(t *testing.T) {
	f := fn(0, 2, block(jump(3), number(0, 1)), block(ret(1), bin(api.OAdd, 1, 1, 0)), block(jump(1), bin(api.OAdd, 1, 1, 0)), block(jump(2), mov(1, 0)))
	expect(t, f, "[nil nil] [1 2] [1 1] [1 nil]", fn(0, 2, f.Blocks[0], block(ret(1), number(1, 3)), block(jump(1), number(1, 2)), block(jump(2), number(1, 1))))
}

// Registers that are none in a function: they are anything, and what writes them stays.
func TestFunctionsWithRegistersThatAreNone(t *testing.T) {
	for _, r := range []int{-1, 2, 3, 199, 200, 1 << 32, math.MinInt, math.MaxInt} {
		l := code(number(r, 1), mov(0, r), number(1, 2), mov(r, 1), bin(api.OAdd, r, 1, 1), bin(api.OEq, 0, r, r), list(r, 1), list(0, r), un(api.ONot, r, 1), call(0, r, r), out(r))
		f := fn(0, 2, block(br(r, 1, 2), l...), block(ret(r), mov(1, 1)), block(ret(r)))
		expect(t, f, "[nil nil] [? 2] [? 2]", fn(0, 2, f.Blocks[0], block(ret(r), number(1, 2)), f.Blocks[2]))
	}
	for _, regs := range []int{1, 2, 199, 200} {
		f := fn(0, regs, block(ret(0), number(regs-1, 5), mov(0, regs-1), number(regs, 6), mov(0, regs)))
		want := fn(0, regs, block(ret(0), number(regs-1, 5), number(0, 5), number(regs, 6), mov(0, regs)))
		expect(t, f, "["+strings.Repeat("nil ", regs-1)+"nil]", want)
	}
}

// Params and Regs that may not be: no parameter stands below 0 or above all registers, and there are no more registers than 200.
func TestOddCounts(t *testing.T) {
	for _, c := range []struct {
		params, regs, cells, any int
	}{
		{-1, 2, 2, 0}, {math.MinInt, 2, 2, 0}, {3, 2, 2, 2}, {math.MaxInt, 2, 2, 2}, {9, 9, 9, 9},
		{0, 0, 0, 0}, {1, 0, 0, 0}, {0, -1, 0, 0}, {5, math.MinInt, 0, 0}, {2, 201, 200, 2}, {2, 1 << 40, 200, 2}, {math.MaxInt, math.MaxInt, 200, 200},
	} {
		f := fn(c.params, c.regs, block(jump(1)), block(ret(0), mov(200, 199)), block(ret(0)))
		words := append(slices.Repeat([]string{"?"}, c.any), slices.Repeat([]string{"nil"}, c.cells-c.any)...)
		all := "[" + strings.Join(words, " ") + "]"
		if s := toldStates(t, fold.Analyse(f), c.cells); s != all+" "+all+" -" {
			t.Error(c, s)
		}
		if g := fold.Run(f); !reflect.DeepEqual(plain(g), plain(f)) {
			t.Error(c, g)
		}
	}
}

// A block that is none is not led to; an end that is none leads nowhere, and stays.
func TestBlocksThatAreNone(t *testing.T) {
	for _, to := range []int{-1, 2, 64, 2000, 1 << 32, math.MinInt, math.MaxInt} {
		f := fn(1, 1, block(br(0, to, 1)), block(ret(0)))
		expect(t, f, "[?] [?]", f)
		f = fn(1, 1, block(br(0, 1, to)), block(ret(0)))
		expect(t, f, "[?] [?]", f)
		f = fn(1, 1, block(jump(to)), block(ret(0)))
		expect(t, f, "[?] -", f)
		f = fn(0, 1, block(br(0, 1, to)), block(ret(0)))
		expect(t, f, "[nil] -", fn(0, 1, block(jump(to)), block(ret(0))))
		f = fn(0, 1, block(br(0, to, 1)), block(ret(0)))
		expect(t, f, "[nil] [nil]", fn(0, 1, block(jump(1)), block(ret(0))))
	}
	for _, kind := range []int{-1, 0, 4, 99, math.MaxInt} {
		f := fn(0, 1, block(api.RTerm{Kind: kind, A: 0, To: 1, Else: 1}), block(ret(0)))
		expect(t, f, "[nil] -", f)
	}
}

func TestNoBlocks(t *testing.T) {
	for _, f := range []api.RFn{{}, {Name: "f", Params: 1, Regs: 3, Blocks: []api.RBlock{}}, {Params: 9, Regs: -1}} {
		if l, g := fold.Analyse(f), fold.Run(f); len(l) != 0 || !reflect.DeepEqual(plain(g), plain(f)) {
			t.Error(l, g)
		}
	}
}

// Names, Params, Regs and the fields that an Op or end does not have stay; a folded Ins and a folded branch have none of them.
func TestOtherFieldsStay(t *testing.T) {
	whole := func(op int) api.RIns {
		return api.RIns{Op: op, D: 1, A: 0, B: 0, N: api.ONot, Deep: 2, K: val.Int(9), L: []int{0, 0}}
	}
	var l, want []api.RIns
	for _, op := range []int{0, api.RConst, api.RCall, api.ROut, api.RTick, 9} {
		l, want = append(l, whole(op)), append(want, whole(op))
	}
	l, want = append(l, whole(api.RMov), whole(api.RUn), whole(api.RList), whole(api.RBin)), append(want, deep(2, konst(1, val.Nil())), deep(2, number(1, 1)), deep(2, konst(1, read("[nil, nil]"))), whole(api.RBin))
	f := api.RFn{Name: "a name", Params: 0, Regs: 2, Blocks: []api.RBlock{
		{Ins: l, Term: api.RTerm{Kind: api.TJump, A: 5, To: 1, Else: 6}},
		{Term: api.RTerm{Kind: api.TBr, A: 0, To: 1, Else: 2}},
		{Term: api.RTerm{Kind: api.TRet, A: 0, To: 1, Else: 2}},
	}}
	g := f
	g.Blocks = []api.RBlock{{Ins: want, Term: f.Blocks[0].Term}, {Term: jump(2)}, f.Blocks[2]}
	expect(t, f, "[nil nil] [nil ?] [nil ?]", g)
}

// A K that is not Ok is nil, where it is known and where it stays.
func TestConstantsThatAreNotOk(t *testing.T) {
	for _, v := range notOk() {
		dead := block(ret(0), konst(0, val.Nil()))
		f := fn(0, 2, block(br(1, 1, 2), konst(0, v), mov(1, 0)), block(ret(0), konst(0, v)), block(ret(0), mov(1, 0)))
		expect(t, f, "[nil nil] - [nil nil]", fn(0, 2, block(jump(2), konst(0, val.Nil()), konst(1, val.Nil())), dead, block(ret(0), konst(1, val.Nil()))))
	}
}

// Values that differ in bits alone meet as one.
func TestBitsMeet(t *testing.T) {
	odd := api.Value{Kind: api.VInt, N: 5, Z: complex(math.Copysign(0, -1), 0)}
	f := fn(1, 2, block(br(0, 1, 2)), block(jump(3), konst(1, odd)), block(jump(3), number(1, 5)), block(ret(1), mov(1, 1)))
	states := fold.Analyse(f)
	if !reflect.DeepEqual(states[3].Cells, cells(anything(), always(val.Int(5)))) {
		t.Error(states[3])
	}
	if i := fold.Run(f).Blocks[3].Ins[0]; !reflect.DeepEqual(i, number(1, 5)) || math.Signbit(real(i.K.Z)) {
		t.Error(i)
	}
}

// What folds was sound and is.
func TestSoundStaysSound(t *testing.T) {
	f := fn(0, 2, block(br(0, 1, 2), tick(1), call(0, 0)), block(br(1, 0, 1), tick(2), list(1, 1, 1)), block(ret(1), un(api.ONot, 1, 1)))
	for _, p := range []api.RProg{{Fns: []api.RFn{f}}, {Fns: []api.RFn{fold.Run(f)}}} {
		if e := sim.Check(p); e != api.OK {
			t.Error(e)
		}
	}
}
