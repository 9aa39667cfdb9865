package parse_test

import (
	"fmt"
	"reflect"
	"testing"

	"ratline/api"
	"ratline/parse"
)

// Trees, put together by hand.

func variable(s string) api.Node { return api.Node{Kind: api.EVar, S: s} }
func whole(n int64) api.Node     { return api.Node{Kind: api.EInt, N: n} }
func imag(n int64) api.Node      { return api.Node{Kind: api.EImag, N: n} }
func text(s string) api.Node     { return api.Node{Kind: api.EText, S: s} }
func none() api.Node             { return api.Node{Kind: api.ENil} }

func bin(op int, a, b api.Node) api.Node {
	return api.Node{Kind: api.EBin, Op: op, L: []api.Node{a, b}}
}

func and(a, b api.Node) api.Node { return api.Node{Kind: api.EAnd, L: []api.Node{a, b}} }
func or(a, b api.Node) api.Node  { return api.Node{Kind: api.EOr, L: []api.Node{a, b}} }
func neg(a api.Node) api.Node    { return api.Node{Kind: api.EUn, Op: api.ONeg, L: []api.Node{a}} }
func not(a api.Node) api.Node    { return api.Node{Kind: api.EUn, Op: api.ONot, L: []api.Node{a}} }
func get(a, b api.Node) api.Node { return bin(api.OGet, a, b) }

func call(s string, l ...api.Node) api.Node { return api.Node{Kind: api.ECall, S: s, L: l} }
func list(l ...api.Node) api.Node           { return api.Node{Kind: api.EList, L: l} }
func block(l ...api.Node) api.Node          { return api.Node{Kind: api.NBlock, L: l} }

func let(s string, e api.Node) api.Node { return api.Node{Kind: api.NLet, S: s, L: []api.Node{e}} }
func set(s string, e api.Node) api.Node { return api.Node{Kind: api.NSet, S: s, L: []api.Node{e}} }
func choice(l ...api.Node) api.Node     { return api.Node{Kind: api.NIf, L: l} }
func while(l ...api.Node) api.Node      { return api.Node{Kind: api.NWhile, L: l} }
func stop() api.Node                    { return api.Node{Kind: api.NBreak} }
func again() api.Node                   { return api.Node{Kind: api.NContinue} }
func back(l ...api.Node) api.Node       { return api.Node{Kind: api.NReturn, L: l} }
func out(e api.Node) api.Node           { return api.Node{Kind: api.NPrint, L: []api.Node{e}} }
func do(e api.Node) api.Node            { return api.Node{Kind: api.NDo, L: []api.Node{e}} }

func fun(name string, params []string, l ...api.Node) api.Fun {
	return api.Fun{Name: name, Params: params, Body: block(l...)}
}

// bare is n, its empty lists nil: rule 1.
func bare(n api.Node) api.Node {
	var l []api.Node
	for _, x := range n.L {
		l = append(l, bare(x))
	}
	n.L = l
	return n
}

func bareFuns(l []api.Fun) (b []api.Fun) {
	for _, f := range l {
		f.Body = bare(f.Body)
		if len(f.Params) == 0 {
			f.Params = nil
		}
		b = append(b, f)
	}
	return b
}

func sameTree(a, b api.Node) bool    { return reflect.DeepEqual(bare(a), bare(b)) }
func sameFuns(a, b []api.Fun) bool   { return reflect.DeepEqual(bareFuns(a), bareFuns(b)) }
func isZeroTree(n api.Node) bool     { return reflect.DeepEqual(n, api.Node{}) }
func inMain(l ...api.Node) []api.Fun { return []api.Fun{fun("main", nil, l...)} }

// short is the front of what x is, to be told.
func short(x any) string {
	s := fmt.Sprint(x)
	return s[:min(300, len(s))]
}

func expectExpr(t *testing.T, s string, want api.Node) {
	t.Helper()
	if n, at, e := parse.Expr(s); !sameTree(n, want) || at != 0 || e != api.OK {
		t.Errorf("Expr(%.200q): %s, %d, %d, want %s", s, short(n), at, e, short(want))
	}
}

func expectExprError(t *testing.T, s string, place int, want api.Errno) {
	t.Helper()
	if n, at, e := parse.Expr(s); !isZeroTree(n) || at != place || e != want {
		t.Errorf("Expr(%.200q): %s, %d, %d, want %d, %d", s, short(n), at, e, place, want)
	}
}

func expectProgram(t *testing.T, s string, want ...api.Fun) {
	t.Helper()
	if l, at, e := parse.Program(s); !sameFuns(l, want) || at != 0 || e != api.OK {
		t.Errorf("Program(%.200q): %s, %d, %d, want %s", s, short(l), at, e, short(want))
	}
}

func expectProgramError(t *testing.T, s string, place int, want api.Errno) {
	t.Helper()
	if l, at, e := parse.Program(s); len(l) != 0 || at != place || e != want {
		t.Errorf("Program(%.200q): %s, %d, %d, want %d, %d", s, short(l), at, e, place, want)
	}
}

// expectShow asks that n is told by just that text, and read from it again: 5.3 and 5.4.
func expectShow(t *testing.T, n api.Node, want string) {
	t.Helper()
	if s, ok := parse.Show(n); s != want || !ok {
		t.Errorf("Show(%s): %.200q, %v, want %.200q", short(n), s, ok, want)
	}
	expectExpr(t, want, n)
}

func expectNoShow(t *testing.T, n api.Node) {
	t.Helper()
	if s, ok := parse.Show(n); s != "" || ok {
		t.Errorf("Show of %d: %.200q, %v", n.Kind, s, ok)
	}
}

// expectPrint asks that l is told by just that text, and read from it again: 5.3 and 5.4.
func expectPrint(t *testing.T, want string, l ...api.Fun) {
	t.Helper()
	if s, ok := parse.Print(l); s != want || !ok {
		t.Errorf("Print(%s): %.200q, %v, want %.200q", short(l), s, ok, want)
	}
	expectProgram(t, want, l...)
}

func expectNoPrint(t *testing.T, l ...api.Fun) {
	t.Helper()
	if s, ok := parse.Print(l); s != "" || ok {
		t.Errorf("Print: %.200q, %v", s, ok)
	}
}
