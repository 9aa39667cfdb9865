package scope_test

import (
	"math"
	"math/rand"
	"reflect"
	"strings"
	"testing"

	"ratline/api"
	"ratline/scope"
)

// Promise 6.3: trees that no source has. They are gone through as they stand.

func TestOddTrees(t *testing.T) {
	a, x := variable("a"), variable("x")
	for _, c := range []struct {
		n    api.Node
		want scope.Fun
	}{
		{api.Node{}, scope.Fun{}}, {api.Node{Kind: -1}, scope.Fun{}}, {api.Node{Kind: 22}, scope.Fun{}}, {api.Node{Kind: math.MaxInt}, scope.Fun{}}, {api.Node{Kind: math.MinInt, S: "x", N: 7, Op: -7}, scope.Fun{}},
		{whole(1), scope.Fun{}}, {do(whole(1)), scope.Fun{}}, {block(), scope.Fun{}},
		{api.Node{Kind: api.NLet}, scope.Fun{Locals: 1, Slots: []int{0}}}, {api.Node{Kind: api.NLet, S: "x"}, scope.Fun{Locals: 1, Slots: []int{0}}},
		{block(api.Node{Kind: api.NLet}, api.Node{Kind: api.NSet}, api.Node{Kind: api.EVar}), scope.Fun{Locals: 1, Slots: []int{0, 0, 0}}},
		{list(let("x", whole(1)), x), scope.Fun{Locals: 1, Slots: []int{0, 0}}}, {let("x", let("a", whole(1))), scope.Fun{Locals: 2, Slots: []int{0, 1}}}, {list(block(let("a", whole(1)), a), let("a", whole(1)), a), scope.Fun{Locals: 2, Slots: []int{0, 0, 1, 1}}},
		{choice(let("x", whole(1)), x, x, x), scope.Fun{Locals: 1, Slots: []int{0, 0, 0, 0}}}, {while(stop()), scope.Fun{}}, {while(), scope.Fun{}}, {choice(), scope.Fun{}}, {back(whole(1), whole(2)), scope.Fun{}}, {while(add(stop(), again())), scope.Fun{}},
		{call("main"), scope.Fun{Calls: []int{0}}}, {block(call("len", block(let("x", whole(1)))), let("x", call("main"))), scope.Fun{Locals: 2, Slots: []int{0, 1}, Calls: []int{1017, 0}}},
		{api.Node{Kind: 77, L: []api.Node{let("x", whole(1)), set("x", x)}}, scope.Fun{Locals: 1, Slots: []int{0, 0, 0}}}, {api.Node{Kind: api.NBlock, L: []api.Node{let("x", whole(1)), {Kind: api.EVar, S: "x", L: []api.Node{x, x}}}}, scope.Fun{Locals: 1, Slots: []int{0, 0, 0, 0}}},
		{api.Node{Kind: api.EBin}, scope.Fun{}}, {api.Node{Kind: api.EUn}, scope.Fun{}}, {let("a name that is none", let("", whole(1))), scope.Fun{Locals: 2, Slots: []int{0, 1}}},
	} {
		l := []api.Fun{{Name: "main", Body: c.n}}
		expectCheck(t, l, c.want)
		expectRead(t, l)
	}
	for _, n := range []api.Node{
		a, api.Node{Kind: api.EVar}, api.Node{Kind: api.NSet}, api.Node{Kind: api.ECall}, api.Node{Kind: api.NBreak}, api.Node{Kind: api.NContinue}, call(""), list(let("x", x)), block(block(let("x", whole(1))), x), list(while(), stop()), api.Node{Kind: api.NBreak, L: []api.Node{while()}}, api.Node{Kind: 77, L: []api.Node{a}}, api.Node{Kind: api.EInt, L: []api.Node{a}}, api.Node{Kind: api.ENil, L: []api.Node{block(block(a))}},
	} {
		expectCheckError(t, api.ErrName, api.Fun{Name: "main", Body: n})
	}
	// Functions and parameters by themselves have no bound here but that of locals.
	var funs []api.Fun
	for _, name := range params(40) {
		funs = append(funs, fun(name, params(12)))
	}
	f, e := scope.Check(append(funs, fun("", nil), fun("main", nil, do(call("p39", make([]api.Node, 12)...)), do(call("")))))
	if e != api.OK || len(f) != 42 || f[39].Locals != 12 || !reflect.DeepEqual(f[41].Calls, []int{39, 40}) {
		t.Error(short(f), e)
	}
	expectCheckError(t, api.ErrName, make([]api.Fun, 2)...)
	expectCheckError(t, api.ErrName, make([]api.Fun, 1)...)
	expectCheckError(t, api.ErrName, fun("main", []string{"", ""}))
}

// anyNode is a tree of any kinds.
func anyNode(r *rand.Rand, deep int) api.Node {
	n := api.Node{Kind: r.Intn(24) - 1, Op: r.Intn(23) - 1, S: []string{"", "a", "b", "main", "len", "f", "fn"}[r.Intn(7)]}
	if r.Intn(3) == 0 {
		n.Kind = []int{api.NLet, api.NBlock, api.NWhile, api.ECall}[r.Intn(4)]
	}
	if deep > 0 {
		for range r.Intn(4) {
			n.L = append(n.L, anyNode(r, r.Intn(deep)))
		}
	}
	return n
}

func TestAnyTrees(t *testing.T) {
	r := rand.New(rand.NewSource(66))
	seen := map[api.Errno]int{}
	for range 60000 {
		l := []api.Fun{{Name: "main", Body: anyNode(r, r.Intn(5))}}
		if r.Intn(2) == 0 {
			l = append(l, api.Fun{Name: []string{"f", "f", "f", "", "len", "main"}[r.Intn(6)], Params: []string{"a", "b", "a"}[r.Intn(3):], Body: anyNode(r, r.Intn(5))})
		}
		seen[expectRead(t, l)]++
	}
	for _, e := range []api.Errno{api.OK, api.ErrName, api.ErrArity} {
		if seen[e] < 1000 {
			t.Error(e, seen[e])
		}
	}
}

func TestDeepTrees(t *testing.T) {
	const deep = 1 << 18
	left, right, blocks, whiles, calls := variable("a"), variable("a"), block(), block(stop()), call("main")
	for range deep {
		left, right = add(left, whole(1)), neg(right)
		blocks, whiles, calls = block(blocks), while(whole(1), whiles), call("len", calls)
	}
	one := []int{0, 0}
	expectCheck(t, inMain(let("a", whole(1)), do(left)), scope.Fun{Locals: 1, Slots: one})
	expectCheck(t, inMain(let("a", whole(1)), do(right)), scope.Fun{Locals: 1, Slots: one})
	expectCheck(t, inMain(blocks, let("a", whole(1)), do(variable("a"))), scope.Fun{Locals: 1, Slots: one})
	expectCheck(t, inMain(whiles), scope.Fun{})
	if f, e := scope.Check(inMain(whiles, stop())); f != nil || e != api.ErrName {
		t.Error(e)
	}
	if f, e := scope.Check(inMain(do(left))); f != nil || e != api.ErrName {
		t.Error(e)
	}
	f, e := scope.Check(inMain(do(calls)))
	if e != api.OK || len(f[0].Calls) != deep+1 || f[0].Calls[0] != 0 || f[0].Calls[deep] != 1017 {
		t.Error(e)
	}
}

func TestWideTrees(t *testing.T) {
	const wide = 1 << 20
	uses, calls := make([]api.Node, wide), make([]api.Node, wide)
	for i := range uses {
		uses[i], calls[i] = variable("a"), call("main")
	}
	f, e := scope.Check([]api.Fun{fun("f", []string{"a"}, uses...), fun("main", nil, calls...)})
	if e != api.OK || len(f[0].Slots) != wide || len(f[1].Calls) != wide || f[1].Calls[wide-1] != 1 {
		t.Error(e)
	}
	f, e = scope.Check(inMain(make([]api.Node, wide)...))
	if e != api.OK || !sameNames(f, []scope.Fun{{}}) {
		t.Error(e)
	}
	if f, e := scope.Check(inMain(do(call("main", make([]api.Node, wide)...)))); f != nil || e != api.ErrArity {
		t.Error(e)
	}
	if f, e := scope.Check([]api.Fun{fun("main", params(wide))}); f != nil || e != api.ErrMany {
		t.Error(e)
	}
	if f, e := scope.Check(make([]api.Fun, wide)); f != nil || e != api.ErrName {
		t.Error(e)
	}
	long := strings.Repeat("x", 1<<24)
	expectCheck(t, []api.Fun{fun(long, []string{long}, set(long, call(long, variable(long)))), fun("main", nil, let(long, whole(1)))}, scope.Fun{Locals: 1, Slots: []int{0, 0}, Calls: []int{0}}, scope.Fun{Locals: 1, Slots: []int{0}})
}

// What holds itself, or fans out beyond all bounds, is answered by an error.
func TestEndlessTrees(t *testing.T) {
	ends := func(what int, l ...api.Fun) {
		t.Helper()
		if f, e := scope.Check(l); f != nil || e != api.ErrMany && e != api.ErrName && e != api.ErrArity {
			t.Errorf("%d: %d", what, e)
		}
	}
	for _, kind := range []int{api.NLet, api.NSet, api.NBreak, api.NBlock, api.EVar, api.ECall, api.EList} {
		n := api.Node{Kind: kind, S: "main", L: make([]api.Node, 3)}
		n.L[0], n.L[1], n.L[2] = n, n, n
		ends(kind, fun("main", nil, n))
		n.L[0] = whole(1)
		ends(kind, fun("main", nil, n))
	}
	self := while(whole(1), block())
	self.L[1].L = []api.Node{self}
	ends(api.NWhile, fun("main", nil, self))
	long := strings.Repeat("x", 1<<20)
	fans, uses, names := whole(1), variable("a"), variable(long)
	for range 60 {
		fans, uses, names = add(fans, fans), list(uses, uses, uses), add(names, names)
	}
	ends(0, inMain(do(fans))...)
	ends(1, inMain(let("a", whole(1)), do(uses))...)
	ends(2, fun("main", append(params(20), long), do(names)))
	// The same tree again and again, in many functions.
	all := whole(1)
	for range 18 {
		all = add(all, all)
	}
	var funs []api.Fun
	for _, name := range params(1 << 16) {
		funs = append(funs, fun(name, nil, do(all)))
	}
	ends(3, funs...)
}

// Rules 3 and 8: what is handed in is not changed, nor kept; what is answered is new memory; the same call answers the same.

func room(l []int) []int { return l[:cap(l)] }

func TestListsAreNewMemory(t *testing.T) {
	const s = "fn f(a, b) { let c = a; c = b; f(c, len(f(a, b))); } fn g() { let c = 1; c = c; f(c, c); g(); } fn main() { let x = g(); g(); }"
	first, firstNames, _, _ := scope.Source(s)
	second, secondNames, _, _ := scope.Source(s)
	third, _ := scope.Check(first)
	known := map[*int]int{}
	for _, l := range [][]scope.Fun{firstNames, secondNames, third} {
		for _, f := range l[:cap(l)] {
			for _, row := range [][]int{room(f.Slots), room(f.Calls)} {
				for i := range row {
					if known[&row[i]]++; known[&row[i]] > 1 {
						t.Fatal("two lists share memory")
					}
				}
			}
		}
	}
	want := bare(secondNames)
	for _, f := range firstNames[:cap(firstNames)] {
		for _, row := range [][]int{room(f.Slots), room(f.Calls)} {
			for i := range row {
				row[i] = 77
			}
		}
	}
	for i := range firstNames {
		firstNames[i] = scope.Fun{Locals: 77}
	}
	for i := range first {
		first[i] = api.Fun{Name: "changed"}
	}
	_, fourth, _, _ := scope.Source(s)
	if fifth, e := scope.Check(second); e != api.OK || !sameNames(fourth, want) || !sameNames(fifth, want) || !sameNames(third, want) {
		t.Error(short(fourth), short(fifth), e)
	}
}

// copied is n and all that is in it, spare room too, in memory of its own.
func copied(n api.Node) api.Node {
	all := n.L[:cap(n.L)]
	l := make([]api.Node, len(all))
	for i, x := range all {
		l[i] = copied(x)
	}
	n.L = l
	return n
}

func TestNothingIsChanged(t *testing.T) {
	for i := range 200 {
		m := &maker{Rand: rand.New(rand.NewSource(int64(i))), wild: 3 + i}
		l := m.program()
		var before []api.Node
		var heads []api.Fun
		for k := range l {
			spare := append(append([]string(nil), l[k].Params...), "spare", "room")
			l[k].Params = spare[:len(l[k].Params)]
			l[k].Body.L = append(l[k].Body.L, api.Node{Kind: 77, S: "spare"})[:len(l[k].Body.L)]
			before = append(before, copied(l[k].Body))
			heads = append(heads, api.Fun{Name: l[k].Name, Params: append([]string(nil), spare...)})
		}
		f, e := scope.Check(l)
		again, wrong := scope.Check(l)
		if !sameNames(f, again) || e != wrong {
			t.Fatal("the same call answers otherwise")
		}
		for k := range l {
			if !reflect.DeepEqual(copied(l[k].Body), before[k]) || l[k].Name != heads[k].Name || !reflect.DeepEqual(l[k].Params[:len(heads[k].Params)], heads[k].Params) {
				t.Fatal("what was handed in is changed")
			}
		}
	}
}
