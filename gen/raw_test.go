package gen_test

import (
	"math"
	"math/rand"
	"reflect"
	"runtime/debug"
	"strings"
	"sync"
	"testing"

	"ratline/api"
	"ratline/gen"
	"ratline/stack"
)

// Promises 8.1 to 8.3: trees that no text reads as. Where 8.1 says what their nodes are, they have that code.

func TestTreesWithAMeaning(t *testing.T) {
	x := variable("x")
	for _, c := range []struct {
		n    api.Node
		want string
	}{
		// numbers below 0, and any op of two and of one
		{do(whole(-7)), "-7 nil | const 0, pop, const 1, ret"}, {do(imag(-2)), "<0000000000000000,c000000000000000> nil | const 0, pop, const 1, ret"}, {do(imag(math.MinInt64)), "<0000000000000000,c3e0000000000000> nil | const 0, pop, const 1, ret"},
		{do(bin(api.OPush, list(), none())), "nil | list 0, const 0, bin 13, pop, const 0, ret"}, {do(bin(api.OCx, whole(1), whole(1))), "1 nil | const 0, const 0, bin 14, pop, const 1, ret"}, {do(un(api.OLen, whole(1))), "1 nil | const 0, un 17, pop, const 1, ret"}, {do(un(api.OConj, whole(1))), "1 nil | const 0, un 20, pop, const 1, ret"},
		// blocks anywhere, and statements in their place
		{block(block(), block(block(out(whole(1))), block()), block()), "1 nil | const 0, out, const 1, ret"}, {block(block(let("x", whole(1)), out(x)), let("x", whole(2)), out(x)), "1 2 nil | const 0, store 0, load 0, out, const 1, store 1, load 1, out, const 2, ret"}, {out(whole(1)), "1 nil | const 0, out, const 1, ret"}, {back(), "nil | const 0, ret, const 0, ret"}, {choice(whole(1), out(whole(2)), back()), "1 2 nil | const 0, brz 5, const 1, out, jump 7, const 2, ret, const 2, ret"}, {while(whole(1), stop()), "1 nil | const 0, brz 5, jump 5, tick 1, jump 0, const 1, ret"}, {while(whole(1), block(block(again()), while(whole(1), block(block(stop()))))), "1 nil | const 0, brz 10, jump 8, const 0, brz 8, jump 8, tick 1, jump 3, tick 2, jump 0, const 1, ret"},
		// names and texts of any bytes
		{block(let("", whole(1)), let("no name", variable("")), set("", variable("no name"))), "1 nil | const 0, store 0, load 0, store 1, load 1, store 0, const 1, ret"}, {do(text("\x00\xff\n")), "\"\x00\xff\\n\" nil | const 0, pop, const 1, ret"},
		// fields that their kinds do not have
		{api.Node{Kind: api.NBlock, Op: 7, S: "x", N: 7, L: []api.Node{{Kind: api.NPrint, Op: -1, S: "y", N: 7, L: []api.Node{{Kind: api.EInt, Op: 99, S: "z", N: 7}}}}}, "7 nil | const 0, out, const 1, ret"}, {do(api.Node{Kind: api.ENil, Op: 1, S: "a", N: 1}), "nil | const 0, pop, const 0, ret"}, {do(api.Node{Kind: api.EText, N: 1, S: "a"}), `"a" nil | const 0, pop, const 1, ret`}, {do(api.Node{Kind: api.EImag, N: 1, S: strings.Repeat("a", 2000)}), "<0000000000000000,3ff0000000000000> nil | const 0, pop, const 1, ret"},
		{do(api.Node{Kind: api.EInt, N: 1, L: []api.Node{}}), "1 nil | const 0, pop, const 1, ret"},
	} {
		expectCode(t, []api.Fun{{Name: "main", Body: c.n}}, c.want)
	}
	p := expectCode(t, []api.Fun{fun("", []string{""}, do(variable(""))), fun("main", nil, do(call("", whole(1)))), fun("a\nb", nil)}, "nil | load 0, pop, const 0, ret", "1 nil | const 0, tick 1, call 0 1, pop, const 1, ret", "nil | const 0, ret")
	if p.Main != 1 {
		t.Error(p.Main)
	}
}

// A node without its parts, or with others, and one of no kind have no code.
func TestTreesWithoutAMeaning(t *testing.T) {
	e, s := whole(1), back()
	rows := [][]api.Node{{}, {e}, {s}, {e, e}, {e, s}, {s, e}, {s, s}, {e, e, e}, {e, s, s}, {e, e, s}, {e, s, e}, {s, s, s}, {e, s, s, s}, {{}}, {e, {}}, {{Kind: -1}}, {{Kind: 22}}, {e, {Kind: 22}}, {e, s, {Kind: -1}}, times(5, e), times(5, s), append(times(5, e), s), append(times(5, s), e)}
	good := map[int][]int{ // the rows that each kind may have
		api.NLet: {1}, api.NSet: {1}, api.NPrint: {1}, api.NDo: {1}, api.EUn: {1}, api.NIf: {4, 8}, api.NWhile: {4}, api.NBreak: {0}, api.NContinue: {0}, api.NReturn: {0, 1}, api.NBlock: {0, 2, 6, 11, 20}, api.EBin: {3}, api.EAnd: {3}, api.EOr: {3}, api.EInt: {0}, api.EImag: {0}, api.EText: {0}, api.ENil: {0}, api.EVar: {0}, api.EList: {0, 1, 3, 7, 19},
	}
	made := 0
	for kind := api.NLet; kind <= api.EList; kind++ {
		for i, l := range rows {
			n := api.Node{Kind: kind, S: "a", L: l}
			switch kind {
			case api.EBin:
				n.Op = api.OAdd
			case api.EUn:
				n.Op = api.ONeg
			case api.NLet:
				n.S = "b"
			case api.ECall:
				n.S = "f" + string(rune('0'+len(l)))
				good[kind] = []int{0, 1, 3, 7, 19}
			}
			want := false
			for _, k := range good[kind] {
				want = want || k == i
			}
			if kind >= api.EBin {
				n = do(n)
			}
			main := fun("main", nil, let("a", whole(1)), while(whole(1), block(n)), out(variable("a")))
			program := []api.Fun{main}
			for args, params := range [][]string{{}, {"a"}, {"a", "b"}, {"a", "b", "c"}, {"a", "b", "c", "d"}, {"a", "b", "c", "d", "e"}, {"a", "b", "c", "d", "e", "f"}} {
				program = append(program, fun("f"+string(rune('0'+args)), params))
			}
			expectTreeBound(t, program, want)
			expectRead(t, program)
			if want {
				made++
			}
		}
	}
	if made != 35 {
		t.Error(made)
	}
}

func TestWrongTrees(t *testing.T) {
	for _, kind := range []int{0, -1, 22, 77, math.MinInt, math.MaxInt, api.EInt, api.EBin, api.ECall, api.EList} {
		n := api.Node{Kind: kind, S: "main"}
		expectErrorOr(t, []api.Fun{{Name: "main", Body: n}}, api.ErrBig)
		expectErrorOr(t, inMain(n), api.ErrBig)
		expectErrorOr(t, inMain(block(n)), api.ErrBig)
		expectErrorOr(t, inMain(choice(whole(1), n)), api.ErrBig)
		expectErrorOr(t, inMain(out(whole(1)), back(), n), api.ErrBig)
		expectErrorOr(t, []api.Fun{fun("main", nil), fun("f", nil, n)}, api.ErrBig)
		expectErrorOr(t, []api.Fun{{Name: "f", Body: n}, fun("main", nil)}, api.ErrBig)
	}
	for _, n := range []api.Node{block(), stop(), out(whole(1)), while(whole(1), block()), choice(whole(1), block()), back(), let("x", whole(1)), {}, {Kind: 22}} {
		expectErrorOr(t, inMain(while(whole(1), block(do(n)))), api.ErrBig)
		expectErrorOr(t, inMain(while(n, block())), api.ErrBig)
		expectErrorOr(t, inMain(while(whole(1), block(do(list(whole(1), n, whole(2)))))), api.ErrBig)
		expectErrorOr(t, inMain(while(whole(1), block(back(call("len", n))))), api.ErrBig)
		expectErrorOr(t, inMain(while(whole(1), block(choice(and(n, whole(1)), block())))), api.ErrBig)
	}
	// ops of another number of operands, and such that are none
	for op := -2; op < 40; op++ {
		expectTreeBound(t, inMain(do(bin(op, whole(1), whole(2)))), op >= 1 && op <= 14)
		expectTreeBound(t, inMain(do(un(op, whole(1)))), op >= 15 && op <= 20)
		expectTreeBound(t, inMain(back(), do(un(op, whole(1)))), op >= 15 && op <= 20)
	}
	for _, op := range []int{math.MinInt, math.MaxInt, 1 << 32, 1<<32 + 1} {
		expectTreeBound(t, inMain(do(bin(op, whole(1), whole(2)))), false)
		expectTreeBound(t, inMain(do(un(op, whole(1)))), false)
	}
	// however much stands around it
	for _, n := range []int{990, 997, 998, 999, 1000, 1001, 1002, 3000} {
		much := []api.Node{while(whole(1), block(times(n, stop())...))}
		expectErrorOr(t, inMain(append(much, api.Node{})...), api.ErrBig)
		expectErrorOr(t, inMain(append([]api.Node{do(api.Node{})}, much...)...), api.ErrBig)
		expectErrorOr(t, inMain(append([]api.Node{{Kind: api.NLet, S: "x"}}, much...)...), api.ErrBig)
	}
	// scope goes first: also through what has no code
	expectErrorOr(t, inMain(do(api.Node{Kind: api.EInt, L: []api.Node{variable("x")}})), api.ErrName)
	expectErrorOr(t, inMain(api.Node{Kind: 77, L: []api.Node{call("len")}}), api.ErrArity)
	expectErrorOr(t, inMain(do(api.Node{}), stop()), api.ErrName)
	// parts that have no code have locals and calls: those behind them keep theirs, or there is no code
	x := api.Node{Kind: api.EVar, S: "x", L: []api.Node{variable("y"), call("main"), let("z", whole(1))}}
	expectErrorOr(t, inMain(let("x", whole(1)), let("y", whole(2)), out(x), out(variable("y"))), api.ErrBig)
}

func expectErrorOr(t *testing.T, l []api.Fun, want api.Errno) {
	t.Helper()
	expectError(t, l, want)
	expectRead(t, l)
}

// anyNode is a tree of any kinds, good ones more often.
func anyNode(r *rand.Rand, deep int, statement bool) api.Node {
	n := api.Node{Kind: api.EBin + r.Intn(11), Op: r.Intn(23) - 1, S: []string{"a", "a", "b", "main", "len", "f", ""}[r.Intn(7)], N: int64(r.Intn(5) - 2)}
	if statement {
		n.Kind = api.NLet + r.Intn(10)
	}
	if r.Intn(60) == 0 {
		n.Kind = r.Intn(24) - 1
	}
	parts, expressions := r.Intn(3), 9
	switch n.Kind {
	case api.NLet, api.NSet, api.NDo, api.NPrint, api.EUn:
		parts = 1
	case api.NIf, api.NWhile:
		parts, expressions = 2+r.Intn(2), 1
	case api.NBlock:
		parts, expressions = r.Intn(4), 0
	case api.EBin, api.EAnd, api.EOr:
		parts = 2
	case api.NBreak, api.NContinue, api.EInt, api.EImag, api.EText, api.ENil, api.EVar:
		parts = 0
	}
	if r.Intn(60) == 0 {
		parts = r.Intn(4)
	}
	if deep == 0 && n.Kind > api.NBlock {
		n, parts = api.Node{Kind: api.EInt, N: 1}, 0
	}
	for i := range parts {
		n.L = append(n.L, anyNode(r, max(0, deep-1), i >= expressions && deep > 0))
	}
	return n
}

func TestAnyTrees(t *testing.T) {
	r := rand.New(rand.NewSource(88))
	seen := map[api.Errno]int{}
	for range 60000 {
		l := []api.Fun{{Name: "main", Body: anyNode(r, r.Intn(5), true)}}
		if r.Intn(2) == 0 {
			l = append(l, api.Fun{Name: []string{"f", "f", "f", "", "len", "main"}[r.Intn(6)], Params: []string{"a", "b", "a"}[r.Intn(3):], Body: anyNode(r, r.Intn(5), true)})
		}
		_, e := expectRead(t, l)
		seen[e]++
	}
	expectSeen(t, seen, 500, api.OK, api.ErrName, api.ErrArity, api.ErrBig)
}

// Promise 8.3: every call ends and none panics.

func TestDeepTrees(t *testing.T) {
	defer debug.SetMaxStack(debug.SetMaxStack(4 << 20)) // so that calls as deep as the tree would not do
	const deep = 1 << 18
	left, right, blocks, full, whiles, ifs, calls, lists := whole(1), whole(1), block(), block(out(whole(1))), block(), block(), call("main"), list()
	for range deep {
		left, right = add(left, whole(1)), neg(right)
		blocks, full = block(blocks), block(full, block())
		whiles, ifs, calls, lists = while(whole(1), whiles), choice(whole(1), block(), ifs), call("len", calls), list(lists)
	}
	expectCode(t, inMain(blocks), "nil | const 0, ret")
	expectCode(t, inMain(full, blocks, full), "1 nil | const 0, out, const 0, out, const 1, ret")
	expectCode(t, inMain(while(whole(1), blocks), choice(whole(1), full, blocks)), "1 nil | const 0, brz 4, tick 1, jump 0, const 0, brz 9, const 0, out, jump 9, const 1, ret")
	for _, n := range []api.Node{do(left), do(right), whiles, ifs, do(calls), do(lists), do(and(left, right))} {
		expectError(t, inMain(n), api.ErrBig)
	}
	expectError(t, []api.Fun{fun("main", nil), fun("f", nil, blocks, do(left))}, api.ErrBig)
	// As deep as the code's bound lets them be.
	for _, n := range []int{995, 996, 997, 2000} {
		e := whole(1)
		for range n {
			e = neg(e)
		}
		expectTreeBound(t, inMain(do(e)), n <= 996)
	}
	for _, n := range []int{248, 249, 250, 500} {
		body := block()
		for range n {
			body = while(whole(1), block(body))
		}
		expectTreeBound(t, inMain(body), n <= 249)
	}
}

func TestWideTrees(t *testing.T) {
	const wide = 1 << 20
	expectCode(t, inMain(times(wide, block())...), "nil | const 0, ret")
	expectError(t, inMain(times(wide, out(whole(1)))...), api.ErrBig)
	expectError(t, inMain(do(list(times(wide, whole(1))...))), api.ErrBig)
	expectError(t, inMain(make([]api.Node, wide)...), api.ErrBig)
	expectError(t, inMain(do(call("main", make([]api.Node, wide)...))), api.ErrArity)
	expectError(t, make([]api.Fun, wide), api.ErrName)
	long := strings.Repeat("x", 1<<24)
	expectError(t, inMain(times(100, do(text(long)))...), api.ErrBig)
	p := expectCode(t, []api.Fun{fun(long, []string{long}, set(long, call(long, variable(long)))), fun("main", nil)}, "nil | load 0, tick 1, call 0 1, store 0, const 0, ret", "nil | const 0, ret")
	if p.Fns[0].Name != long {
		t.Error(len(p.Fns[0].Name))
	}
}

// What holds itself, or fans out beyond all bounds, is answered by an error.
func TestEndlessTrees(t *testing.T) {
	ends := func(what int, l ...api.Fun) {
		t.Helper()
		if p, e := gen.Program(l); e == api.OK || !isZero(p) {
			t.Errorf("%d: %s, %d", what, short(p.Main), e)
		}
	}
	for _, kind := range []int{0, api.NSet, api.NIf, api.NBlock, api.EInt, api.EUn, api.ECall, api.EList} {
		n := api.Node{Kind: kind, S: "main", L: make([]api.Node, 1+kind%3)}
		for i := range n.L {
			n.L[i] = n
		}
		ends(kind, fun("main", nil, n))
		ends(kind, fun("main", nil, do(n)))
	}
	self := while(whole(1), block())
	self.L[1].L = []api.Node{self}
	ends(api.NWhile, fun("main", nil, self))
	fans, blocks := whole(1), block()
	for range 60 {
		fans, blocks = add(fans, fans), block(blocks, blocks)
	}
	ends(0, inMain(do(fans))...)
	ends(1, inMain(blocks)...)
	// Much that is shared, and yet within scope's bound.
	fans, blocks = whole(1), block()
	for range 18 {
		fans, blocks = add(fans, fans), block(blocks, blocks)
	}
	expectError(t, inMain(do(fans)), api.ErrBig)
	expectCode(t, inMain(blocks, blocks), "nil | const 0, ret")
}

// Rules 3 and 8: what is handed in is not changed, nor kept; what is answered is new memory; the same call answers the same.

// copied is n and all that is in it, spare room too, in memory of its own.
func copied(n api.Node) api.Node {
	all := n.L[:cap(n.L)]
	l := make([]api.Node, len(all))
	for i, x := range all {
		l[i] = copied(x)
	}
	n.L = l
	return n
}

func TestNothingIsChanged(t *testing.T) {
	for i := range 100 {
		m := &maker{Rand: rand.New(rand.NewSource(int64(i))), wild: 10 + 20*i}
		l := m.program()
		var before []api.Node
		var heads []api.Fun
		for k := range l {
			spare := append(append([]string(nil), l[k].Params...), "spare", "room")
			l[k].Params = spare[:len(l[k].Params)]
			l[k].Body.L = append(l[k].Body.L, api.Node{Kind: 77, S: "spare"})[:len(l[k].Body.L)]
			before = append(before, copied(l[k].Body))
			heads = append(heads, api.Fun{Name: l[k].Name, Params: append([]string(nil), spare...)})
		}
		p, e := gen.Program(l)
		again, wrong := gen.Program(l)
		if !reflect.DeepEqual(p, again) || e != wrong {
			t.Fatal("the same call answers otherwise")
		}
		for k := range l {
			if !reflect.DeepEqual(copied(l[k].Body), before[k]) || l[k].Name != heads[k].Name || !reflect.DeepEqual(l[k].Params[:len(heads[k].Params)], heads[k].Params) {
				t.Fatal("what was handed in is changed")
			}
		}
	}
}

func TestListsAreNewMemory(t *testing.T) {
	const s = `fn f(a, b) { let c = [a, "x", 1]; return c; } fn g() { while f(1, "x") { g(); break; } } fn main() { print f(2i, nil) && g(); }`
	first, _, _ := gen.Source(s)
	second, _, _ := gen.Source(s)
	code, consts := map[*api.SIns]int{}, map[*api.Value]int{}
	for _, p := range []api.Prog{first, second} {
		for _, f := range p.Fns {
			for i := range f.Code[:cap(f.Code)] {
				code[&f.Code[:cap(f.Code)][i]]++
			}
			for i := range f.Consts[:cap(f.Consts)] {
				consts[&f.Consts[:cap(f.Consts)][i]]++
			}
		}
	}
	for _, n := range code {
		if n > 1 {
			t.Fatal("two codes share memory")
		}
	}
	for _, n := range consts {
		if n > 1 {
			t.Fatal("two lists of constants share memory")
		}
	}
	text := stack.Text(second)
	for i, f := range first.Fns {
		clear(f.Code[:cap(f.Code)])
		clear(f.Consts[:cap(f.Consts)])
		first.Fns[i] = api.SFn{Name: "changed"}
	}
	third, _, e := gen.Source(s)
	if e != api.OK || !reflect.DeepEqual(second, third) || stack.Text(third) != text {
		t.Error(short(third), e)
	}
}

// The same call answers the same, whoever else calls.
func TestCallsAtOnce(t *testing.T) {
	m := &maker{Rand: rand.New(rand.NewSource(8)), wild: 1 << 30}
	l := m.program()
	want, _ := gen.Program(l)
	var all sync.WaitGroup
	for range 8 {
		all.Go(func() {
			for range 50 {
				if p, e := gen.Program(l); e != api.OK || !reflect.DeepEqual(p, want) {
					t.Error(e)
				}
			}
		})
	}
	all.Wait()
}
