package sim_test

import (
	"fmt"
	"math/rand"
	"reflect"
	"slices"
	"strings"
	"testing"

	"ratline/api"
	"ratline/likely"
	"ratline/ops"
	"ratline/sim"
	"ratline/val"
)

// A second, slow reading of promise 12.1, to hold all calls against.

// readGraph is of each block the ends' blocks, one by one.
func readGraph(f api.RFn) [][]int {
	g := [][]int{}
	for _, b := range f.Blocks {
		l := []int{}
		if b.Term.Kind == 1 || b.Term.Kind == 2 {
			l = append(l, b.Term.To)
		}
		if b.Term.Kind == 2 && b.Term.Else != b.Term.To {
			l = append(l, b.Term.Else)
		}
		g = append(g, l)
	}
	return g
}

func readSize(f api.RFn) int {
	n := 0
	for _, b := range f.Blocks {
		n++
		for _, i := range b.Ins {
			n++
			for range i.L {
				n++
			}
		}
	}
	return n
}

func readText(f api.RFn) string {
	var s strings.Builder
	for n, b := range f.Blocks {
		fmt.Fprintf(&s, "block %d\n", n)
		for _, i := range b.Ins {
			l := []any{i.Op, i.D, i.A, i.B, i.N}
			if i.Op == 1 {
				l = append(l, val.Show(i.K))
			}
			for _, r := range i.L {
				l = append(l, r)
			}
			s.WriteString(strings.TrimSuffix(fmt.Sprintln(l...), "\n") + "\n")
		}
		fmt.Fprintln(&s, b.Term.Kind, b.Term.A, b.Term.To, b.Term.Else)
	}
	return s.String()
}

// has are the fields of each Op and of each Kind.
var (
	has     = map[int]string{1: "D K", 2: "D A", 3: "D A B N", 4: "D A N", 5: "D N L", 6: "A", 7: "N", 8: "D L"}
	hasEnds = map[int]string{1: "To", 2: "A To Else", 3: "A"}
)

// readIns tells whether an Ins may stand, field by field.
func readIns(p api.RProg, f api.RFn, i api.RIns) bool {
	if has[i.Op] == "" || i.Deep < 0 || !val.Ok(i.K) {
		return false
	}
	own := strings.Fields(has[i.Op])
	is := func(field string, n int, may func(int) bool) bool {
		return slices.Contains(own, field) && may(n) || !slices.Contains(own, field) && n == 0
	}
	reg := func(r int) bool { return r >= 0 && r < f.Regs }
	number := func(n int) bool {
		switch i.Op {
		case 3, 4:
			return n >= 1 && n <= 20 && ops.Arity(n) == 5-i.Op
		case 5:
			return n >= 0 && n < len(p.Fns) && p.Fns[n].Params == len(i.L)
		}
		return n >= 1 && n <= 4095
	}
	if !is("D", i.D, reg) || !is("A", i.A, reg) || !is("B", i.B, reg) || !is("N", i.N, number) {
		return false
	}
	if i.Op != 1 && val.Show(i.K) != "nil" || i.Op != 5 && i.Op != 8 && len(i.L) > 0 || i.Op == 8 && len(i.L) > 64 {
		return false
	}
	for _, r := range i.L {
		if !reg(r) {
			return false
		}
	}
	return true
}

func readEnd(f api.RFn, e api.RTerm) bool {
	own := strings.Fields(hasEnds[e.Kind])
	is := func(field string, n, below int) bool {
		if !slices.Contains(own, field) {
			below = 1
		}
		return n >= 0 && n < below
	}
	return len(own) > 0 && is("A", e.A, f.Regs) && is("To", e.To, len(f.Blocks)) && is("Else", e.Else, len(f.Blocks))
}

func readForm(p api.RProg, f api.RFn) bool {
	if f.Params < 0 || f.Params > 8 || f.Regs < 1 || f.Regs > 200 || f.Regs < f.Params || len(f.Blocks) < 1 || len(f.Blocks) > 2000 || readSize(f) > 14000 {
		return false
	}
	for _, b := range f.Blocks {
		for _, i := range b.Ins {
			if !readIns(p, f, i) {
				return false
			}
		}
		if !readEnd(f, b.Term) {
			return false
		}
	}
	return true
}

// comesTo tells whether one comes from a block to another by one end or more, over blocks that may be passed.
func comesTo(g [][]int, from, to int, may func(int) bool) bool {
	seen, open := map[int]bool{}, []int{from}
	for len(open) > 0 {
		at := open[0]
		open = open[1:]
		for _, next := range g[at] {
			if next == to {
				return true
			}
			if may(next) && !seen[next] {
				seen[next] = true
				open = append(open, next)
			}
		}
	}
	return false
}

// readTicks asks each block by itself whether it comes to itself again with no RTick on the way.
func readTicks(f api.RFn) bool {
	g := readGraph(f)
	any := func(int) bool { return true }
	without := func(n int) bool {
		return !slices.ContainsFunc(f.Blocks[n].Ins, func(i api.RIns) bool { return i.Op == 7 })
	}
	for n, b := range f.Blocks {
		if without(n) && (n == 0 || comesTo(g, 0, n, any)) && comesTo(g, n, n, without) {
			return false
		}
		ahead := 0
		for _, i := range b.Ins {
			if i.Op == 5 && ahead != 7 {
				return false
			}
			ahead = i.Op
		}
	}
	return true
}

func readCheck(p api.RProg) api.Errno {
	if len(p.Fns) < 1 || len(p.Fns) > 16 || p.Main < 0 || p.Main >= len(p.Fns) || p.Fns[p.Main].Params != 0 {
		return 3
	}
	for _, f := range p.Fns {
		switch {
		case !readForm(p, f):
			return 3
		case !readTicks(f):
			return 14
		}
	}
	return 0
}

// reading runs a program: a call is a call of Go's, its registers are a map that has only what was written, and what ends a run is a panic of an api.Run.
type reading struct {
	p    api.RProg
	left int
	told []api.Event
}

func (r *reading) event(e api.Event) {
	if r.left <= 0 {
		panic(api.RFuel)
	}
	r.left--
	r.told = append(r.told, e)
}

// made is v, if there was no error.
func made(v api.Value, e api.Run) api.Value {
	if e != api.ROK {
		panic(e)
	}
	return v
}

// listMade is a list of l: by its parts' Sizes and depths.
func listMade(l []api.Value) api.Value {
	size, deepest := 1, 0
	for _, v := range l {
		size, deepest = size+val.Size(v), max(deepest, depth(v))
	}
	if size > 1000 || deepest > 23 {
		panic(api.RBig)
	}
	return api.Value{Kind: api.VList, L: l}
}

func depth(v api.Value) int {
	if v.Kind != api.VList {
		return 0
	}
	n := 0
	for _, x := range v.L {
		n = max(n, depth(x))
	}
	return n + 1
}

func (r *reading) do(i api.RIns, regs map[int]api.Value) {
	l := []api.Value{}
	for _, n := range i.L {
		l = append(l, regs[n])
	}
	switch i.Op {
	case 1:
		regs[i.D] = i.K
	case 2:
		regs[i.D] = regs[i.A]
	case 3:
		regs[i.D] = made(ops.Binary(i.N, regs[i.A], regs[i.B]))
	case 4:
		regs[i.D] = made(ops.Unary(i.N, regs[i.A]))
	case 5:
		regs[i.D] = r.call(i.N, l)
	case 6:
		r.event(api.Event{Kind: 2, V: regs[i.A]})
	case 7:
		r.event(api.Event{Kind: 1, N: i.N})
	case 8:
		regs[i.D] = listMade(l)
	}
}

func (r *reading) call(fn int, operands []api.Value) api.Value {
	f, regs := r.p.Fns[fn], map[int]api.Value{}
	for n, v := range operands {
		regs[n] = v
	}
	at := 0
	for {
		b := f.Blocks[at]
		for _, i := range b.Ins {
			r.do(i, regs)
		}
		is, _ := ops.Unary(api.ONot, regs[b.Term.A])
		switch {
		case b.Term.Kind == 3:
			return regs[b.Term.A]
		case b.Term.Kind == 2 && is.N == 1:
			at = b.Term.Else
		default:
			at = b.Term.To
		}
	}
}

func readRun(p api.RProg, fuel int) (x api.Trace, wrong api.Errno) {
	if e := readCheck(p); e != api.OK {
		return x, e
	}
	r := reading{p: p, left: min(fuel, 100000)}
	defer func() {
		x.Events = r.told
		switch e := recover().(type) {
		case nil:
		case api.Run:
			x.E = e
		default:
			panic(e)
		}
	}()
	x.V = r.call(p.Main, nil)
	return x, api.OK
}

// equal tells whether two traces tell the same; no list is as good as an empty one.
func equal(a, b api.Trace) bool {
	return len(a.Events) == len(b.Events) && slices.EqualFunc(a.Events, b.Events, sameEvent) && a.E == b.E && sameEvent(api.Event{V: a.V}, api.Event{V: b.V})
}

// expectRead asks that all calls answer of p what the second reading does.
func expectRead(t *testing.T, p api.RProg, fuel int) (api.Trace, api.Errno) {
	t.Helper()
	for _, f := range p.Fns {
		if g, want := sim.Graph(f), readGraph(f); fmt.Sprint(g) != fmt.Sprint(want) {
			t.Fatalf("Graph of %s: %v, want %v", short(f), g, want)
		}
		if n, want := sim.Size(f), readSize(f); n != want {
			t.Fatalf("Size of %s: %d, want %d", short(f), n, want)
		}
		if s, want := sim.Text(f), readText(f); s != want {
			t.Fatalf("Text of %s: %s, want %s", short(f), s, want)
		}
	}
	want, wrong := readRun(p, fuel)
	if e := sim.Check(p); e != wrong {
		t.Fatalf("Check of %s: %d, want %d", short(p), e, wrong)
	}
	x, e := sim.Run(p, fuel)
	if e != wrong || !equal(x, want) || e != api.OK && !reflect.DeepEqual(x, api.Trace{}) {
		t.Fatalf("%s with %d: %s, %d, want %s, %d", short(p), fuel, short(tell(x)), e, short(tell(want)), wrong)
	}
	return x, e
}

// ends counts how runs ended, and what they told.
type ends struct {
	run         [7]int
	errno       map[api.Errno]int
	ticks, outs int
}

func (n *ends) add(x api.Trace, e api.Errno) {
	if n.errno == nil {
		n.errno = map[api.Errno]int{}
	}
	n.errno[e]++
	if e != api.OK {
		return
	}
	n.run[x.E]++
	for _, v := range x.Events {
		n.ticks, n.outs = n.ticks+v.Kind%2, n.outs+v.Kind/2
	}
}

// Three blocks with all ends that they may have, with RTicks or without.
func TestAllThreeBlocks(t *testing.T) {
	terms := []api.RTerm{ret(0), br(0, 0, 3)}
	for to := range 3 {
		terms = append(terms, jump(to))
		for other := range 3 {
			terms = append(terms, br(1, to, other))
		}
	}
	var choices []api.RBlock
	for _, term := range terms {
		choices = append(choices, block(term, mov(0, 1), un(api.ONot, 1, 1)), block(term, tick(5), un(api.ONot, 1, 1)))
	}
	var n ends
	for _, a := range choices {
		for _, b := range choices {
			for _, c := range choices {
				n.add(expectRead(t, mainOf(a, b, c), 4))
			}
		}
	}
	if n.errno[api.OK] < 5000 || n.errno[api.ErrTick] < 3000 || n.errno[api.ErrForm] < 1000 || n.run[api.ROK] < 1000 || n.run[api.RFuel] < 1000 {
		t.Error(n)
	}
}

// All short codes of a block.
func TestAllShortCodes(t *testing.T) {
	alphabet := code(number(0, 3), konst(1, val.Text("")), mov(1, 0), bin(api.OAdd, 0, 0, 1), bin(api.OEq, 1, 0, 1), un(api.OLen, 1, 1), call(1, 0, 1), call(0, 1), out(0), out(1), tick(5), list(0), list(1, 0, 1), mov(0, 2), tick(0), call(1, 0), api.RIns{})
	back := fn(1, 2, block(ret(1), out(0), list(1, 0, 1)))
	var n ends
	for length := range 4 {
		var fill func(l []api.RIns)
		fill = func(l []api.RIns) {
			if len(l) == length {
				for _, fuel := range []int{0, 1, 2, 6} {
					n.add(expectRead(t, program(fn(0, 2, block(br(0, 1, 2), l...), block(ret(1)), block(ret(0), out(1))), back), fuel))
				}
				return
			}
			for _, i := range alphabet {
				fill(append(slices.Clone(l), i))
			}
		}
		fill(nil)
	}
	if n.run[api.ROK] < 1000 || n.run[api.RKind] < 100 || n.run[api.RFuel] < 500 || n.errno[api.ErrForm] < 1000 || n.errno[api.ErrTick] < 500 {
		t.Error(n)
	}
}

func TestLikelyPrograms(t *testing.T) {
	r := rand.New(rand.NewSource(12))
	var n ends
	for range 20000 {
		p := likely.Registers(r.Intn, 9)
		x, e := expectRead(t, p, 60)
		n.add(x, e)
		fuel := r.Intn(12) - 1
		n.add(expectRead(t, p, fuel))
		if less, _ := sim.Run(p, fuel); e == api.OK && !equal(less, withLessFuel(x, fuel)) {
			t.Fatal(short(p), tell(x), tell(less))
		}
	}
	if n.errno[api.OK] < 10000 || n.errno[api.ErrTick] < 500 || n.errno[api.ErrForm] > 0 {
		t.Error(n)
	}
	if n.run[api.ROK] < 1000 || n.run[api.RKind] < 1000 || n.run[api.RZero] == 0 || n.run[api.RIndex] == 0 || n.run[api.RBig] == 0 || n.run[api.RFuel] < 1000 || n.ticks < 10000 || n.outs < 10000 {
		t.Error(n)
	}
}

func TestGreatLikelyPrograms(t *testing.T) {
	r := rand.New(rand.NewSource(122))
	for range 200 {
		expectRead(t, likely.Registers(r.Intn, 120), 300)
	}
}

// One thing of a program is changed: it is refused as Check says, or run as it then is.
func TestBlemishedPrograms(t *testing.T) {
	r := rand.New(rand.NewSource(120))
	var n ends
	for range 40000 {
		p := likely.Registers(r.Intn, 6)
		likely.Blemish(r.Intn, &p)
		n.add(expectRead(t, p, 9))
	}
	if n.errno[api.OK] < 2000 || n.errno[api.ErrForm] < 5000 || n.errno[api.ErrTick] < 1000 {
		t.Error(n)
	}
}

// bytesProgram takes any bytes as a program.
func bytesProgram(b []byte) api.RProg {
	take := func() int {
		if len(b) == 0 {
			return 0
		}
		n := int(int8(b[0]))
		b = b[1:]
		return n
	}
	list := func() (l []int) {
		for range take() & 3 {
			l = append(l, take())
		}
		return l
	}
	ins := func() api.RIns {
		i := api.RIns{Op: take()}
		for at, field := range []*int{&i.D, &i.A, &i.B, &i.N} {
			if name := string("DABN"[at]); i.Op < 0 || slices.Contains(strings.Fields(has[i.Op]), name) {
				*field = take()
			}
		}
		if i.Op == 5 || i.Op == 8 || i.Op < 0 {
			i.L = list()
		}
		if i.Op == 1 || i.Op < 0 {
			i.K = []api.Value{val.Nil(), val.Int(int64(take())), val.Text("ab"), val.List(values(val.Int(1))), val.Cx(2i), text(700), {Kind: 9}}[take()&255%7]
		}
		return i
	}
	p := api.RProg{Main: take()}
	for range take() & 3 {
		f := api.RFn{Params: take(), Regs: take()}
		for range take() & 7 {
			t := api.RTerm{Kind: take()}
			for at, field := range []*int{&t.A, &t.To, &t.Else} {
				if name := []string{"A", "To", "Else"}[at]; t.Kind < 0 || slices.Contains(strings.Fields(hasEnds[t.Kind]), name) {
					*field = take()
				}
			}
			f.Blocks = append(f.Blocks, api.RBlock{Term: t})
			for range take() & 7 {
				f.Blocks[len(f.Blocks)-1].Ins = append(f.Blocks[len(f.Blocks)-1].Ins, ins())
			}
		}
		p.Fns = append(p.Fns, f)
	}
	return p
}

// seeds are bytes of programs: a constant that is returned, a loop, a call of a function that outputs, a circle without an RTick.
func seeds() [][]byte {
	return [][]byte{
		{},
		{0, 1, 0, 1, 1, 3, 0, 1, 1, 0, 5, 1},
		{0, 1, 0, 2, 2, 1, 1, 1, 7, 5, 2, 0, 0, 1, 1, 4, 1, 0, 16},
		{0, 2, 0, 1, 1, 3, 0, 2, 7, 3, 5, 0, 1, 1, 0, 1, 2, 1, 3, 1, 2, 6, 0, 8, 1, 2, 0, 0},
		{0, 1, 0, 1, 1, 1, 0, 0},
	}
}

func TestAnyBytes(t *testing.T) {
	r := rand.New(rand.NewSource(121))
	var n ends
	for range 60000 {
		b := slices.Clone(seeds()[r.Intn(5)])
		for range r.Intn(20) {
			b = append(b, byte(r.Intn(9)))
		}
		for range r.Intn(4) {
			if len(b) > 0 {
				b[r.Intn(len(b))] = []byte{byte(r.Intn(9)), byte(r.Int())}[r.Intn(2)]
			}
		}
		n.add(expectRead(t, bytesProgram(b), r.Intn(30)))
	}
	if n.errno[api.OK] < 5000 || n.errno[api.ErrForm] < 5000 || n.errno[api.ErrTick] < 1000 || n.outs < 1000 || n.ticks < 1000 {
		t.Error(n)
	}
}

func FuzzRun(f *testing.F) {
	for n, b := range seeds() {
		f.Add(b, 9*n)
	}
	f.Fuzz(func(t *testing.T, b []byte, fuel int) {
		expectRead(t, bytesProgram(b), min(fuel, 2000))
	})
}
