package gen_test

import (
	"math/rand"
	"reflect"
	"regexp"
	"strings"
	"testing"

	"ratline/api"
	"ratline/gen"
	"ratline/parse"
	"ratline/scope"
	"ratline/stack"
	"ratline/val"
)

// A second reading of promise 8.1, to hold Program against: each node is written out as a row of lines among which places have names; names of locals are looked for where they stand, by the blocks around them; and only when all rows are written are places, constants and STicks numbered.

type line struct {
	api.SIns
	v     *api.Value // of an SConst
	place int        // where a jump leads to; of a line that is no instruction: what is here
}

type reader struct {
	funs    []api.Fun
	visible []string // with the local of each
	local   []int
	locals  int
	places  int
	wrong   bool
}

// partsOf are the forms of the parts of each kind: e an expression, s a statement.
var partsOf = map[int]*regexp.Regexp{}

func init() {
	for form, kinds := range map[string][]int{
		"^e$": {api.NLet, api.NSet, api.NPrint, api.NDo, api.EUn}, "^ess?$": {api.NIf}, "^es$": {api.NWhile}, "^e?$": {api.NReturn}, "^s*$": {api.NBlock}, "^ee$": {api.EBin, api.EAnd, api.EOr}, "^e*$": {api.ECall, api.EList},
		"^$": {api.NBreak, api.NContinue, api.EInt, api.EImag, api.EText, api.ENil, api.EVar},
	} {
		for _, kind := range kinds {
			partsOf[kind] = regexp.MustCompile(form)
		}
	}
}

func classOf(n api.Node) string {
	switch {
	case n.Kind >= 1 && n.Kind <= 10:
		return "s"
	case n.Kind >= 11 && n.Kind <= 21:
		return "e"
	}
	return "?"
}

func (r *reader) place() int { r.places++; return r.places }

func (r *reader) find(name string) int {
	for i, s := range r.visible {
		if s == name {
			return r.local[i]
		}
	}
	panic("scope lets no such name by")
}

func (r *reader) declare(name string) int {
	r.visible, r.local = append(r.visible, name), append(r.local, r.locals)
	r.locals++
	return r.locals - 1
}

// row puts instructions, values, places and rows together.
func row(l ...any) (all []line) {
	for _, x := range l {
		switch x := x.(type) {
		case []line:
			all = append(all, x...)
		case api.Value:
			all = append(all, line{SIns: api.SIns{Op: api.SConst}, v: &x})
		case api.SIns:
			all = append(all, line{SIns: x})
		case line:
			all = append(all, x)
		case int:
			all = append(all, line{place: x})
		}
	}
	return all
}

func ins(op, a int) api.SIns   { return api.SIns{Op: op, A: a} }
func leads(op, place int) line { return line{SIns: ins(op, 0), place: place} }

// read is the row of n within a loop that ends, and goes on, at those places.
func (r *reader) read(n api.Node, end, on int) []line {
	form := ""
	for _, x := range n.L {
		form += classOf(x)
	}
	if good := partsOf[n.Kind]; good == nil || !good.MatchString(form) {
		r.wrong = true
	}
	if r.wrong {
		return nil
	}
	part := func(i int) []line { return r.read(n.L[i], end, on) }
	all := func() (l []line) {
		for i := range n.L {
			l = append(l, part(i)...)
		}
		return l
	}
	one, nought, not := val.Int(1), val.Int(0), ins(api.SUn, api.ONot)
	a, b := r.place(), r.place()
	switch n.Kind {
	case api.NLet:
		e := part(0)
		return row(e, ins(api.SStore, r.declare(n.S)))
	case api.NSet:
		return row(part(0), ins(api.SStore, r.find(n.S)))
	case api.NDo:
		return row(part(0), ins(api.SPop, 0))
	case api.NPrint:
		return row(part(0), ins(api.SOut, 0))
	case api.NReturn:
		if len(n.L) == 0 {
			return row(val.Nil(), ins(api.SRet, 0))
		}
		return row(part(0), ins(api.SRet, 0))
	case api.NBlock:
		before := len(r.visible)
		l := all()
		r.visible, r.local = r.visible[:before], r.local[:before]
		return l
	case api.NIf:
		if len(n.L) == 2 {
			return row(part(0), leads(api.SBrz, a), part(1), a)
		}
		return row(part(0), leads(api.SBrz, a), part(1), leads(api.SJump, b), a, part(2), b)
	case api.NWhile:
		start := r.place()
		return row(start, part(0), leads(api.SBrz, a), r.read(n.L[1], a, b), b, ins(api.STick, 0), leads(api.SJump, start), a)
	case api.NBreak:
		return row(leads(api.SJump, end))
	case api.NContinue:
		return row(leads(api.SJump, on))
	case api.EInt:
		return row(val.Int(n.N))
	case api.EImag:
		return row(val.Cx(complex(0, float64(n.N))))
	case api.EText:
		r.wrong = r.wrong || len(n.S) > 999
		return row(val.Text(n.S))
	case api.ENil:
		return row(val.Nil())
	case api.EVar:
		return row(ins(api.SLoad, r.find(n.S)))
	case api.EBin:
		return row(all(), ins(api.SBin, n.Op))
	case api.EUn:
		return row(all(), ins(api.SUn, n.Op))
	case api.EList:
		r.wrong = r.wrong || len(n.L) > 64
		return row(all(), ins(api.SList, len(n.L)))
	case api.EAnd:
		return row(part(0), leads(api.SBrz, a), part(1), leads(api.SBrz, a), one, leads(api.SJump, b), a, nought, b)
	case api.EOr:
		return row(part(0), not, leads(api.SBrz, a), part(1), not, leads(api.SBrz, a), nought, leads(api.SJump, b), a, one, b)
	}
	return row(all(), r.called(n))
}

func (r *reader) called(n api.Node) []line {
	op := map[string]int{"push": 13, "cx": 14, "len": 17, "re": 18, "im": 19, "conj": 20}[n.S]
	if op > 16 {
		return row(ins(api.SUn, op))
	}
	if op > 0 {
		return row(ins(api.SBin, op))
	}
	for i, f := range r.funs {
		if f.Name == n.S {
			return row(ins(api.STick, 0), api.SIns{Op: api.SCall, A: i, B: len(n.L)})
		}
	}
	panic("scope lets no such call by")
}

// number is the row with numbers in it: the constants by what is shown of them, which is unlike of unlike ones.
func number(l []line, f *api.SFn, ticks *int) {
	at, known := map[int]int{}, map[string]int{}
	count := 0
	for _, x := range l {
		if x.Op == 0 {
			at[x.place] = count
		} else {
			count++
		}
	}
	for _, x := range l {
		switch x.Op {
		case 0:
			continue
		case api.SConst:
			shown := val.Show(*x.v)
			if _, ok := known[shown]; !ok {
				known[shown] = len(f.Consts)
				f.Consts = append(f.Consts, *x.v)
			}
			x.A = known[shown]
		case api.SJump, api.SBrz:
			x.A = at[x.place]
		case api.STick:
			*ticks++
			x.A = *ticks
		}
		f.Code = append(f.Code, x.SIns)
	}
}

func readProgram(l []api.Fun) (p api.Prog, e api.Errno) {
	if _, e := scope.Check(l); e != api.OK {
		return api.Prog{}, e
	}
	for _, f := range l {
		if len(l) > 16 || len(f.Params) > 8 {
			return api.Prog{}, api.ErrMany
		}
	}
	ticks := 0
	for i, f := range l {
		r := reader{funs: l}
		for _, name := range f.Params {
			r.declare(name)
		}
		r.wrong = classOf(f.Body) != "s"
		code := row(r.read(f.Body, 0, 0), val.Nil(), ins(api.SRet, 0))
		if r.wrong {
			return api.Prog{}, api.ErrBig
		}
		made := api.SFn{Name: f.Name, Params: len(f.Params), Locals: r.locals}
		number(code, &made, &ticks)
		if len(made.Code) > 1000 || ticks > 4095 {
			return api.Prog{}, api.ErrBig
		}
		p.Fns = append(p.Fns, made)
		if f.Name == "main" {
			p.Main = i
		}
	}
	for fn := range p.Fns {
		if _, e := stack.Virtual(p, fn); e != api.OK {
			return api.Prog{}, api.ErrBig
		}
	}
	return p, api.OK
}

// expectRead asks that Program answers what the second reading does, and that what is made Checks.
func expectRead(t *testing.T, l []api.Fun) (api.Prog, api.Errno) {
	t.Helper()
	p, e := gen.Program(l)
	want, wrong := readProgram(l)
	if !reflect.DeepEqual(p, want) || e != wrong || e == api.OK && stack.Check(p) != api.OK {
		t.Fatalf("Program(%s): %s, %d, want %s, %d", short(l), short(p), e, short(want), wrong)
	}
	return p, e
}

// expectSourceRead asks that Source answers parse's answer, and Program's.
func expectSourceRead(t *testing.T, s string) api.Errno {
	t.Helper()
	p, at, e := gen.Source(s)
	l, place, wrong := parse.Program(s)
	var want api.Prog
	if wrong == api.OK {
		want, wrong = expectRead(t, l)
	}
	if !reflect.DeepEqual(p, want) || at != place || e != wrong {
		t.Fatalf("Source(%.300q): %s, %d, %d, want %s, %d, %d", s, short(p), at, e, short(want), place, wrong)
	}
	return e
}

func expectSeen(t *testing.T, seen map[api.Errno]int, least int, all ...api.Errno) {
	t.Helper()
	for _, e := range all {
		if seen[e] < least {
			t.Errorf("%d came %d times", e, seen[e])
		}
	}
}

// All short rows of pieces.
func TestAllShortPrograms(t *testing.T) {
	pieces := []string{"let x=a;", "x=!a;", "print x||1;", "if a&&0{", "}else{", "while a{", "}", "break;", "continue;", "return;", "f(x);", "}fn g(x){", "[1i,\"\",nil];"}
	seen := map[api.Errno]int{}
	var all func(row string, more int)
	all = func(row string, more int) {
		seen[expectSourceRead(t, "fn f(a){"+row+"}fn main(){}")]++
		if more == 0 {
			return
		}
		for _, p := range pieces {
			all(row+p, more-1)
		}
	}
	all("", 4)
	expectSeen(t, seen, 100, api.OK, api.ErrName, api.ErrSyntax)
}

// Whole loops and choices, with all short bodies.
func TestAllShortLoops(t *testing.T) {
	pieces := []string{"break;", "continue;", "1;", "return 2;", "while 3{ROW}", "if 4{ROW}", "if 5{ROW}else{ROW}"}
	var rows func(deep int) []string
	rows = func(deep int) (l []string) {
		l = []string{""}
		if deep == 0 {
			return append(l, "break;", "continue;", "break;7;continue;")
		}
		for _, p := range pieces {
			l = append(l, p, p+p, p+"8;")
		}
		return l
	}
	for _, outer := range rows(1) {
		for _, inner := range rows(1) {
			for _, last := range rows(0) {
				s := strings.ReplaceAll(strings.ReplaceAll(outer, "ROW", inner), "ROW", last)
				if e := expectSourceRead(t, "fn main(){while 0{"+s+"}}"); e != api.OK {
					t.Fatal(s, e)
				}
			}
		}
	}
}

// maker makes any programs, whose names are visible but for a few.
type maker struct {
	*rand.Rand
	wild int // one of so many things is any
	seen []string
	all  int
}

func (m *maker) odd() bool { return m.Intn(m.wild) == 0 }

func (m *maker) fresh() string {
	m.all++
	if m.odd() {
		return "va"
	}
	return "v" + string(rune('a'+m.all%26)) + string(rune('a'+m.all/26%26))
}

func (m *maker) leaf() api.Node {
	switch k := m.Intn(12); {
	case m.odd() && k < 6:
		return variable("nowhere")
	case k < 6 && len(m.seen) > 0:
		return variable(m.seen[m.Intn(len(m.seen))])
	case k < 9:
		return whole(int64(m.Intn(4)))
	case k == 9:
		return imag(int64(m.Intn(3)))
	case k == 10:
		return text([]string{"", "a", "nil", "1"}[m.Intn(4)])
	}
	return none()
}

func (m *maker) call(deep int) api.Node {
	of := []struct {
		name string
		args int
	}{{"push", 2}, {"cx", 2}, {"len", 1}, {"re", 1}, {"im", 1}, {"conj", 1}, {"main", 0}, {"f0", 0}, {"f1", 1}, {"f2", 2}, {"f3", 3}}[m.Intn(11)]
	if m.odd() || m.odd() {
		of.args = m.Intn(4)
	}
	n := call(of.name)
	for range of.args {
		n.L = append(n.L, m.expr(deep-1))
	}
	return n
}

func (m *maker) expr(deep int) api.Node {
	if deep <= 0 {
		return m.leaf()
	}
	e := func() api.Node { return m.expr(deep - 1 - m.Intn(2)) }
	switch m.Intn(12) {
	case 0:
		return un(api.ONeg+m.Intn(2), e())
	case 1, 2:
		return and(e(), e())
	case 3, 4:
		return or(e(), e())
	case 5:
		n := list()
		for range m.Intn(4) {
			n.L = append(n.L, e())
		}
		return n
	case 6, 7:
		return m.call(deep)
	case 8:
		return bin(api.OAdd+m.Intn(12), e(), e())
	}
	return bin([]int{api.OAdd, api.OSub, api.OLt, api.OEq}[m.Intn(4)], e(), e())
}

func (m *maker) block(deep int, loop bool) api.Node {
	n, seen := block(), len(m.seen)
	for range m.Intn(5) {
		n.L = append(n.L, m.statement(deep, loop))
	}
	m.seen = m.seen[:seen]
	return n
}

func (m *maker) statement(deep int, loop bool) api.Node {
	e := func() api.Node { return m.expr(m.Intn(3)) }
	switch k := m.Intn(8 + min(4, 4*deep)); k {
	case 0, 1:
		name := m.fresh()
		n := let(name, e())
		m.seen = append(m.seen, name)
		return n
	case 2, 3:
		if len(m.seen) == 0 {
			return do(e())
		}
		return set(m.seen[m.Intn(len(m.seen))], e())
	case 4:
		if m.Intn(3) == 0 {
			return back([]api.Node{e()}[:m.Intn(2)]...)
		}
		return out(e())
	case 5:
		if loop || m.odd() {
			return []api.Node{stop(), again()}[m.Intn(2)]
		}
		return out(e())
	case 6:
		return out(e())
	case 7:
		return do(e())
	case 8, 9:
		return while(e(), m.block(deep-1, true))
	case 10:
		return choice(e(), m.block(deep-1, loop))
	}
	return choice(e(), m.block(deep-1, loop), m.block(deep-1, loop))
}

func (m *maker) program() (l []api.Fun) {
	for i, name := range []string{"f0", "f1", "f2", "f3", "main"} {
		var p []string
		for range i % 4 {
			p = append(p, m.fresh())
		}
		m.seen = append(m.seen[:0], p...)
		l = append(l, api.Fun{Name: name, Params: p, Body: m.block(3, false)})
	}
	m.Shuffle(len(l), func(i, k int) { l[i], l[k] = l[k], l[i] })
	return l
}

func TestAnyPrograms(t *testing.T) {
	seen := map[api.Errno]int{}
	for i := range 2500 {
		m := &maker{Rand: rand.New(rand.NewSource(int64(i))), wild: 20 + 2*i}
		l := m.program()
		_, e := expectRead(t, l)
		seen[e]++
		if s, ok := parse.Print(l); ok {
			expectSourceRead(t, s)
		}
	}
	expectSeen(t, seen, 20, api.OK, api.ErrName, api.ErrArity)
}

// Programs near the bounds of the code: OK and ErrBig.
func TestAnyLongPrograms(t *testing.T) {
	seen := map[api.Errno]int{}
	for i := range 600 {
		m := &maker{Rand: rand.New(rand.NewSource(int64(i))), wild: 1 << 30}
		l := m.program()
		for k := range l {
			for range m.Intn(400) {
				l[k].Body.L = append(l[k].Body.L, out(m.expr(m.Intn(2))))
			}
		}
		_, e := expectRead(t, l)
		seen[e]++
	}
	expectSeen(t, seen, 50, api.OK, api.ErrBig)
}

// Any text: parse's errors and scope's, or its code.
func FuzzSource(f *testing.F) {
	for _, s := range []string{"", "fn main() { print 1; }", "fn f(a, b) { let c = a + b; if c { let d = c && a; d = b; } else if a { } let d = 1; return d; } fn main() { f(1, len(push([], f(2, 3)))); }", "fn main(){while 1||2i{break;continue;}print cx(1,\"2\");}", "fn main( {", "fn main(){return;}fn g(x){x=nil;main();}"} {
		f.Add(s)
	}
	f.Fuzz(func(t *testing.T, s string) { expectSourceRead(t, s) })
}
