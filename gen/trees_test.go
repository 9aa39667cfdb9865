package gen_test

import (
	"fmt"
	"reflect"
	"strings"
	"testing"

	"ratline/api"
	"ratline/gen"
	"ratline/parse"
	"ratline/stack"
	"ratline/val"
)

// Trees, put together by hand.

func variable(s string) api.Node { return api.Node{Kind: api.EVar, S: s} }
func whole(n int64) api.Node     { return api.Node{Kind: api.EInt, N: n} }
func imag(n int64) api.Node      { return api.Node{Kind: api.EImag, N: n} }
func text(s string) api.Node     { return api.Node{Kind: api.EText, S: s} }
func none() api.Node             { return api.Node{Kind: api.ENil} }

func bin(op int, a, b api.Node) api.Node {
	return api.Node{Kind: api.EBin, Op: op, L: []api.Node{a, b}}
}

func un(op int, a api.Node) api.Node { return api.Node{Kind: api.EUn, Op: op, L: []api.Node{a}} }
func add(a, b api.Node) api.Node     { return bin(api.OAdd, a, b) }
func neg(a api.Node) api.Node        { return un(api.ONeg, a) }
func and(a, b api.Node) api.Node     { return api.Node{Kind: api.EAnd, L: []api.Node{a, b}} }
func or(a, b api.Node) api.Node      { return api.Node{Kind: api.EOr, L: []api.Node{a, b}} }

func call(s string, l ...api.Node) api.Node { return api.Node{Kind: api.ECall, S: s, L: l} }
func list(l ...api.Node) api.Node           { return api.Node{Kind: api.EList, L: l} }
func block(l ...api.Node) api.Node          { return api.Node{Kind: api.NBlock, L: l} }

func let(s string, e api.Node) api.Node { return api.Node{Kind: api.NLet, S: s, L: []api.Node{e}} }
func set(s string, e api.Node) api.Node { return api.Node{Kind: api.NSet, S: s, L: []api.Node{e}} }
func choice(l ...api.Node) api.Node     { return api.Node{Kind: api.NIf, L: l} }
func while(l ...api.Node) api.Node      { return api.Node{Kind: api.NWhile, L: l} }
func stop() api.Node                    { return api.Node{Kind: api.NBreak} }
func again() api.Node                   { return api.Node{Kind: api.NContinue} }
func back(l ...api.Node) api.Node       { return api.Node{Kind: api.NReturn, L: l} }
func out(e api.Node) api.Node           { return api.Node{Kind: api.NPrint, L: []api.Node{e}} }
func do(e api.Node) api.Node            { return api.Node{Kind: api.NDo, L: []api.Node{e}} }

func fun(name string, params []string, l ...api.Node) api.Fun {
	return api.Fun{Name: name, Params: params, Body: block(l...)}
}

func inMain(l ...api.Node) []api.Fun { return []api.Fun{fun("main", nil, l...)} }

// times is n in a row, so often.
func times(count int, n api.Node) (l []api.Node) {
	for range count {
		l = append(l, n)
	}
	return l
}

// short is the front of what x is, to be told.
func short(x any) string {
	s := fmt.Sprint(x)
	return s[:min(400, len(s))]
}

// told is a function's constants and code, as words: of each instruction its name, and its operands as far as its Op has such.
func told(f api.SFn) string {
	words := []struct {
		name     string
		operands int
	}{{"none", 2}, {"const", 1}, {"load", 1}, {"store", 1}, {"pop", 0}, {"bin", 1}, {"un", 1}, {"jump", 1}, {"brz", 1}, {"call", 2}, {"ret", 0}, {"out", 0}, {"tick", 1}, {"list", 1}}
	var consts, code []string
	for _, v := range f.Consts {
		consts = append(consts, val.Show(v))
	}
	for _, i := range f.Code {
		s := words[i.Op].name
		for k, n := range []int{i.A, i.B} {
			if k < words[i.Op].operands || n != 0 {
				s += fmt.Sprint(" ", n)
			}
		}
		code = append(code, s)
	}
	return strings.Join(consts, " ") + " | " + strings.Join(code, ", ")
}

func isZero(p api.Prog) bool { return reflect.DeepEqual(p, api.Prog{}) }

// expectMade asks that p, which e came with, is whole and good, of functions with those names: 8.2.
func expectMade(t *testing.T, l []api.Fun, p api.Prog, e api.Errno) bool {
	t.Helper()
	good := e == api.OK && stack.Check(p) == api.OK && len(p.Fns) == len(l) && p.Main < len(l)
	for i := 0; good && i < len(l); i++ {
		good = p.Fns[i].Name == l[i].Name && p.Fns[i].Params == len(l[i].Params) && (l[i].Name == "main") == (p.Main == i)
	}
	if !good {
		t.Errorf("%s: %s, %d, Check %d", short(l), short(p), e, stack.Check(p))
	}
	return good
}

// expectSource asks that the functions of s have just that code.
func expectSource(t *testing.T, s string, want ...string) api.Prog {
	t.Helper()
	l, _, _ := parse.Program(s)
	p, at, e := gen.Source(s)
	if at != 0 || !expectMade(t, l, p, e) {
		t.Errorf("Source(%.300q): %d", s, at)
		return p
	}
	for i, f := range p.Fns {
		if told(f) != want[i] {
			t.Errorf("Source(%.300q), %s:\n%s\nwant\n%s", s, f.Name, told(f), want[i])
		}
	}
	if q, e := gen.Program(l); e != api.OK || !reflect.DeepEqual(p, q) {
		t.Errorf("Program of %.300q: %s, %d", s, short(q), e)
	}
	return p
}

// expectCode asks that l, which no source has perhaps, has just that code.
func expectCode(t *testing.T, l []api.Fun, want ...string) api.Prog {
	t.Helper()
	p, e := gen.Program(l)
	if !expectMade(t, l, p, e) {
		return p
	}
	for i, f := range p.Fns {
		if told(f) != want[i] {
			t.Errorf("Program(%s), %s:\n%.400s\nwant\n%.400s", short(l), f.Name, told(f), want[i])
		}
	}
	return p
}

func expectError(t *testing.T, l []api.Fun, want api.Errno) {
	t.Helper()
	if p, e := gen.Program(l); e != want || !isZero(p) {
		t.Errorf("Program(%s): %s, %d, want %d", short(l), short(p), e, want)
	}
}

func expectSourceError(t *testing.T, s string, place int, want api.Errno) {
	t.Helper()
	if p, at, e := gen.Source(s); at != place || e != want || !isZero(p) {
		t.Errorf("Source(%.300q): %s, %d, %d, want %d, %d", s, short(p), at, e, place, want)
	}
}

// expectBound asks that s is made, or that it is too great.
func expectBound(t *testing.T, s string, within bool) {
	t.Helper()
	l, at, e := parse.Program(s)
	if e != api.OK {
		t.Fatalf("%.300q is no program: %d, %d", s, at, e)
	}
	expectTreeBound(t, l, within)
	if !within {
		expectSourceError(t, s, 0, api.ErrBig)
		return
	}
	p, at, e := gen.Source(s)
	if at != 0 || !expectMade(t, l, p, e) {
		t.Errorf("Source(%.300q): %d", s, at)
	}
}

func expectTreeBound(t *testing.T, l []api.Fun, within bool) {
	t.Helper()
	if !within {
		expectError(t, l, api.ErrBig)
		return
	}
	p, e := gen.Program(l)
	expectMade(t, l, p, e)
}
