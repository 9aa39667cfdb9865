package scope_test

import (
	"fmt"
	"reflect"
	"testing"

	"ratline/api"
	"ratline/parse"
	"ratline/scope"
)

// Trees, put together by hand.

func variable(s string) api.Node { return api.Node{Kind: api.EVar, S: s} }
func whole(n int64) api.Node     { return api.Node{Kind: api.EInt, N: n} }
func neg(a api.Node) api.Node    { return api.Node{Kind: api.EUn, Op: api.ONeg, L: []api.Node{a}} }

func add(a, b api.Node) api.Node {
	return api.Node{Kind: api.EBin, Op: api.OAdd, L: []api.Node{a, b}}
}

func and(a, b api.Node) api.Node { return api.Node{Kind: api.EAnd, L: []api.Node{a, b}} }
func or(a, b api.Node) api.Node  { return api.Node{Kind: api.EOr, L: []api.Node{a, b}} }

func call(s string, l ...api.Node) api.Node { return api.Node{Kind: api.ECall, S: s, L: l} }
func list(l ...api.Node) api.Node           { return api.Node{Kind: api.EList, L: l} }
func block(l ...api.Node) api.Node          { return api.Node{Kind: api.NBlock, L: l} }

func let(s string, e api.Node) api.Node { return api.Node{Kind: api.NLet, S: s, L: []api.Node{e}} }
func set(s string, e api.Node) api.Node { return api.Node{Kind: api.NSet, S: s, L: []api.Node{e}} }
func choice(l ...api.Node) api.Node     { return api.Node{Kind: api.NIf, L: l} }
func while(l ...api.Node) api.Node      { return api.Node{Kind: api.NWhile, L: l} }
func stop() api.Node                    { return api.Node{Kind: api.NBreak} }
func again() api.Node                   { return api.Node{Kind: api.NContinue} }
func back(l ...api.Node) api.Node       { return api.Node{Kind: api.NReturn, L: l} }
func out(e api.Node) api.Node           { return api.Node{Kind: api.NPrint, L: []api.Node{e}} }
func do(e api.Node) api.Node            { return api.Node{Kind: api.NDo, L: []api.Node{e}} }

func fun(name string, params []string, l ...api.Node) api.Fun {
	return api.Fun{Name: name, Params: params, Body: block(l...)}
}

func inMain(l ...api.Node) []api.Fun { return []api.Fun{fun("main", nil, l...)} }

// bare is l, its empty lists nil: rule 1.
func bare(l []scope.Fun) (b []scope.Fun) {
	for _, f := range l {
		b = append(b, scope.Fun{Locals: f.Locals, Slots: append([]int(nil), f.Slots...), Calls: append([]int(nil), f.Calls...)})
	}
	return b
}

func sameNames(a, b []scope.Fun) bool { return reflect.DeepEqual(bare(a), bare(b)) }

// short is the front of what x is, to be told.
func short(x any) string {
	s := fmt.Sprint(x)
	return s[:min(300, len(s))]
}

// expectCheck asks that the names of l mean just that.
func expectCheck(t *testing.T, l []api.Fun, want ...scope.Fun) {
	t.Helper()
	if f, e := scope.Check(l); !sameNames(f, want) || e != api.OK {
		t.Errorf("Check(%s): %s, %d, want %s", short(l), short(f), e, short(want))
	}
}

func expectCheckError(t *testing.T, want api.Errno, l ...api.Fun) {
	t.Helper()
	if f, e := scope.Check(l); len(f) != 0 || e != want {
		t.Errorf("Check(%s): %s, %d, want %d", short(l), short(f), e, want)
	}
}

// expectSource asks that s is read as parse reads it, and that its names mean just that.
func expectSource(t *testing.T, s string, want ...scope.Fun) {
	t.Helper()
	tree, _, _ := parse.Program(s)
	l, f, at, e := scope.Source(s)
	if !reflect.DeepEqual(l, tree) || !sameNames(f, want) || at != 0 || e != api.OK {
		t.Errorf("Source(%.300q): %s, %d, %d, want %s", s, short(f), at, e, short(want))
	}
	expectCheck(t, tree, want...)
}

func expectError(t *testing.T, s string, want api.Errno) {
	t.Helper()
	tree, place, e := parse.Program(s)
	if e != api.OK {
		t.Fatalf("%.300q is no program: %d, %d", s, place, e)
	}
	if l, f, at, e := scope.Source(s); len(l) != 0 || len(f) != 0 || at != 0 || e != want {
		t.Errorf("Source(%.300q): %s, %d, %d, want %d", s, short(f), at, e, want)
	}
	expectCheckError(t, want, tree...)
}
