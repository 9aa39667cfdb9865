package scope_test

import (
	"math/rand"
	"reflect"
	"strings"
	"testing"

	"ratline/api"
	"ratline/parse"
	"ratline/scope"
)

// A second reading of chapter 6, to hold Check against: the trees are laid out as a row of what is asked for, by the chapter's order, and that row is then gone through with the names of each block in a list of its own.

type asked struct {
	what string // "let", "use", "call", "leave"; "open", "close" of a block, "in", "out" of a while
	name string
	args int
}

func layOut(n api.Node) (row []asked) {
	var parts []asked
	for _, x := range n.L {
		parts = append(parts, layOut(x)...)
	}
	switch n.Kind {
	case api.NLet:
		return append(parts, asked{what: "let", name: n.S})
	case api.NSet, api.EVar:
		return append([]asked{{what: "use", name: n.S}}, parts...)
	case api.ECall:
		return append(parts, asked{what: "call", name: n.S, args: len(n.L)})
	case api.NBreak, api.NContinue:
		return append([]asked{{what: "leave"}}, parts...)
	case api.NBlock:
		return append(append([]asked{{what: "open"}}, parts...), asked{what: "close"})
	case api.NWhile:
		return append(append([]asked{{what: "in"}}, parts...), asked{what: "out"})
	}
	return parts
}

type named struct {
	name  string
	local int
}

// local is where name stands in the blocks, or -1.
func local(blocks [][]named, name string) int {
	for _, l := range blocks {
		for _, x := range l {
			if x.name == name {
				return x.local
			}
		}
	}
	return -1
}

// meaning is what a call of name is told as, and how many operands it takes; -1, if it is nothing's.
func meaning(l []api.Fun, name string) (number, args int) {
	switch name {
	case "push":
		return 1000 + api.OPush, 2
	case "cx":
		return 1000 + api.OCx, 2
	case "len":
		return 1000 + api.OLen, 1
	case "re":
		return 1000 + api.ORe, 1
	case "im":
		return 1000 + api.OIm, 1
	case "conj":
		return 1000 + api.OConj, 1
	}
	for i, f := range l {
		if f.Name == name {
			return i, len(f.Params)
		}
	}
	return -1, 0
}

func readFunction(l []api.Fun, f api.Fun) (told scope.Fun, e api.Errno) {
	blocks := [][]named{nil}
	for _, p := range f.Params {
		if local(blocks, p) >= 0 {
			return scope.Fun{}, api.ErrName
		}
		blocks[0] = append(blocks[0], named{p, told.Locals})
		told.Locals++
	}
	whiles := 0
	for _, x := range layOut(f.Body) {
		here := local(blocks, x.name)
		switch x.what {
		case "let":
			if here >= 0 {
				return scope.Fun{}, api.ErrName
			}
			last := len(blocks) - 1
			blocks[last] = append(blocks[last], named{x.name, told.Locals})
			told.Slots = append(told.Slots, told.Locals)
			told.Locals++
		case "use":
			if here < 0 {
				return scope.Fun{}, api.ErrName
			}
			told.Slots = append(told.Slots, here)
		case "call":
			number, args := meaning(l, x.name)
			if number < 0 {
				return scope.Fun{}, api.ErrName
			}
			if args != x.args {
				return scope.Fun{}, api.ErrArity
			}
			told.Calls = append(told.Calls, number)
		case "leave":
			if whiles == 0 {
				return scope.Fun{}, api.ErrName
			}
		case "open":
			blocks = append(blocks, nil)
		case "close":
			blocks = blocks[:len(blocks)-1]
		case "in":
			whiles++
		case "out":
			whiles--
		}
	}
	if told.Locals > 64 {
		return scope.Fun{}, api.ErrMany
	}
	return told, api.OK
}

func read(l []api.Fun) (told []scope.Fun, e api.Errno) {
	for i, f := range l {
		if n, _ := meaning(nil, f.Name); n >= 0 {
			return nil, api.ErrName
		}
		if n, _ := meaning(l[:i], f.Name); n >= 0 {
			return nil, api.ErrName
		}
	}
	for _, f := range l {
		one, e := readFunction(l, f)
		if e != api.OK {
			return nil, e
		}
		told = append(told, one)
	}
	n, args := meaning(l, "main")
	if n < 0 {
		return nil, api.ErrName
	}
	if args > 0 {
		return nil, api.ErrArity
	}
	return told, api.OK
}

// expectRead asks that Check answers what the second reading does.
func expectRead(t *testing.T, l []api.Fun) api.Errno {
	t.Helper()
	f, e := scope.Check(l)
	want, wrong := read(l)
	if !sameNames(f, want) || e != wrong || e != api.OK && f != nil {
		t.Fatalf("Check(%s): %s, %d, want %s, %d", short(l), short(f), e, short(want), wrong)
	}
	return e
}

// expectSourceRead asks that Source answers parse's answer, and Check's.
func expectSourceRead(t *testing.T, s string) api.Errno {
	t.Helper()
	l, f, at, e := scope.Source(s)
	tree, place, wrong := parse.Program(s)
	var want []scope.Fun
	if wrong == api.OK {
		want, wrong = read(tree)
	}
	if wrong != api.OK {
		tree = nil
	}
	if !reflect.DeepEqual(l, tree) || !sameNames(f, want) || at != place || e != wrong || e != api.OK && (l != nil || f != nil) {
		t.Fatalf("Source(%.300q): %s, %s, %d, %d, want %s, %d, %d", s, short(l), short(f), at, e, short(want), place, wrong)
	}
	return e
}

// Promises 6.1 and 6.2: all short rows of pieces.
func TestAllShortPrograms(t *testing.T) {
	pieces := []string{"let x=a;", "x=a;", "print x;", "if a{", "}else{", "while a{", "}", "break;", "let a=x;", "f(x);", "main(len(a));", "}fn g(x){", "let x=f(a,1);"}
	seen := map[api.Errno]int{}
	var all func(row string, more int)
	all = func(row string, more int) {
		seen[expectSourceRead(t, "fn f(a){"+row+"}fn main(){}")]++
		if more == 0 {
			return
		}
		for _, p := range pieces {
			all(row+p, more-1)
		}
	}
	all("", 4)
	for _, e := range []api.Errno{api.OK, api.ErrName, api.ErrArity, api.ErrSyntax} {
		if seen[e] < 100 {
			t.Error(e, seen[e])
		}
	}
}

// Any programs: mostly such that names are visible, so that whole ones come about too.

type maker struct {
	*rand.Rand
	wild int // one of so many names is any
	seen []string
	all  int
}

func (m *maker) name() string {
	return []string{"a", "b", "c", "d", "main", "len", "f0"}[m.Intn(7)]
}

func (m *maker) known() string {
	if len(m.seen) == 0 || m.Intn(m.wild) == 0 {
		return m.name()
	}
	return m.seen[m.Intn(len(m.seen))]
}

func (m *maker) fresh() string {
	m.all++
	if m.Intn(3*m.wild) == 0 {
		return m.name()
	}
	return "v" + string(rune('a'+m.all%26)) + strings.Repeat("_", m.all/26)
}

func (m *maker) call(deep int) api.Node {
	of := []struct {
		name string
		args int
	}{{"push", 2}, {"cx", 2}, {"len", 1}, {"re", 1}, {"im", 1}, {"conj", 1}, {"main", 0}, {"f0", 0}, {"f1", 1}, {"f2", 2}, {"f3", 3}}[m.Intn(11)]
	if m.Intn(m.wild*2) == 0 {
		of.args = m.Intn(4)
	}
	if m.Intn(m.wild*2) == 0 {
		of.name = m.name()
	}
	n := call(of.name)
	for range of.args {
		n.L = append(n.L, m.expr(deep-1))
	}
	return n
}

func (m *maker) expr(deep int) api.Node {
	if deep <= 0 {
		if len(m.seen) == 0 && m.Intn(m.wild) > 0 {
			return whole(1)
		}
		return variable(m.known())
	}
	switch m.Intn(7) {
	case 0:
		return neg(m.expr(deep - 1))
	case 1:
		return and(m.expr(deep-1), m.expr(deep-1))
	case 2:
		return or(m.expr(deep-1), m.expr(deep-1))
	case 3:
		return list(m.expr(deep-1), m.expr(deep-1), m.expr(deep-1))
	case 4, 5:
		return m.call(deep)
	}
	return add(m.expr(deep-1), m.expr(deep-1))
}

func (m *maker) block(deep int, loop bool) api.Node {
	n, seen := block(), len(m.seen)
	for range m.Intn(5) {
		n.L = append(n.L, m.statement(deep, loop))
	}
	m.seen = m.seen[:seen]
	return n
}

func (m *maker) statement(deep int, loop bool) api.Node {
	e := func() api.Node { return m.expr(m.Intn(3)) }
	switch k := m.Intn(7 + min(3, 3*deep)); k {
	case 0, 1:
		name := m.fresh()
		n := let(name, e())
		m.seen = append(m.seen, name)
		return n
	case 2:
		if len(m.seen) == 0 && m.Intn(m.wild) > 0 {
			return do(e())
		}
		return set(m.known(), e())
	case 3:
		return out(e())
	case 4:
		return back([]api.Node{e()}[:m.Intn(2)]...)
	case 5:
		if loop || m.Intn(4*m.wild) == 0 {
			return []api.Node{stop(), again()}[m.Intn(2)]
		}
		return do(e())
	case 6:
		return do(e())
	case 7:
		return while(e(), m.block(deep-1, true))
	case 8:
		return choice(e(), m.block(deep-1, loop))
	}
	return choice(e(), m.block(deep-1, loop), m.block(deep-1, loop))
}

func (m *maker) program() (l []api.Fun) {
	for i, name := range []string{"f0", "f1", "f2", "f3", "main"} {
		if i == 4 {
			i = 0
		}
		var p []string
		for range i {
			p = append(p, m.fresh())
		}
		m.seen = append(m.seen[:0], p...)
		if m.Intn(4*m.wild) == 0 {
			name = m.name()
		}
		l = append(l, api.Fun{Name: name, Params: p, Body: m.block(3, false)})
	}
	m.Shuffle(len(l), func(i, k int) { l[i], l[k] = l[k], l[i] })
	return l
}

func TestAnyPrograms(t *testing.T) {
	seen := map[api.Errno]int{}
	for i := range 3000 {
		m := &maker{Rand: rand.New(rand.NewSource(int64(i))), wild: 3 + i%200}
		l := m.program()
		seen[expectRead(t, l)]++
		if s, ok := parse.Print(l); ok {
			expectSourceRead(t, s)
		}
	}
	for _, e := range []api.Errno{api.OK, api.ErrName, api.ErrArity} {
		if seen[e] < 100 {
			t.Error(e, seen[e])
		}
	}
}

// Programs of many lets: OK and ErrMany.
func TestAnyManyLets(t *testing.T) {
	seen := map[api.Errno]int{}
	for i := range 1500 {
		m := &maker{Rand: rand.New(rand.NewSource(int64(i))), wild: 2000}
		f := fun("main", nil)
		for range 30 + m.Intn(30) {
			f.Body.L = append(f.Body.L, let(m.fresh(), whole(1)), m.statement(1, false))
		}
		seen[expectRead(t, []api.Fun{fun("f0", nil), fun("f1", []string{"a"}), fun("f2", []string{"a", "b"}), fun("f3", []string{"a", "b", "c"}), f})]++
	}
	if seen[api.OK] < 100 || seen[api.ErrMany] < 100 {
		t.Error(seen)
	}
}

// Any text: parse's errors, or what the names mean.
func FuzzSource(f *testing.F) {
	for _, s := range []string{"", "fn main() { x = 1; }", "fn f(a, b) { let c = a + b; if c { let d = c; d = b; } else if a { } let d = 1; return d; } fn main() { f(1, len(push([], f(2, 3)))); }", "fn main(a){while a{break;continue;}print cx(1,2i);}", "fn main( {"} {
		f.Add(s)
	}
	f.Fuzz(func(t *testing.T, s string) { expectSourceRead(t, s) })
}
