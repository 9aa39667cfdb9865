package inline_test

import (
	"fmt"
	"math/rand"
	"reflect"
	"slices"
	"strconv"
	"testing"

	"ratline/api"
	"ratline/hand"
	"ratline/inline"
	"ratline/likely"
	"ratline/sim"
	"ratline/val"
)

// A second, slow reading of chapter 17: blocks have names, by which ends lead; what a caller would have is counted when it is made; and each time one looks from the first call on.

func readCalls(p api.RProg) [][]int {
	l := make([][]int, len(p.Fns))
	for n, f := range p.Fns {
		for to := range p.Fns {
			if slices.ContainsFunc(f.Blocks, func(b api.RBlock) bool {
				return slices.ContainsFunc(b.Ins, func(i api.RIns) bool { return i.Op == 5 && i.N == to })
			}) {
				l[n] = append(l[n], to)
			}
		}
	}
	return l
}

// readCyclic goes by way of one function more each time.
func readCyclic(p api.RProg) []bool {
	count := len(p.Fns)
	comes := make([][]bool, count)
	for n, l := range readCalls(p) {
		comes[n] = make([]bool, count)
		for _, to := range l {
			comes[n][to] = true
		}
	}
	for by := range count {
		for from := range count {
			for to := range count {
				comes[from][to] = comes[from][to] || comes[from][by] && comes[by][to]
			}
		}
	}
	l := make([]bool, count)
	for n := range l {
		l[n] = comes[n][n]
	}
	return l
}

// named is a block, the end of which leads by names.
type named struct {
	name, to, other string
	api.RBlock
}

// readNamed names the blocks of f.
func readNamed(word string, f api.RFn) []named {
	name := func(n int) string {
		if n < 0 || n >= len(f.Blocks) {
			return "none"
		}
		return word + strconv.Itoa(n)
	}
	var l []named
	for n, b := range f.Blocks {
		l = append(l, named{name(n), name(b.Term.To), name(b.Term.Else), b})
	}
	return l
}

// readNumbered are blocks that lead by numbers again.
func readNumbered(l []named) []api.RBlock {
	number := func(name string) int {
		return slices.IndexFunc(l, func(b named) bool { return b.name == name })
	}
	var all []api.RBlock
	for _, b := range l {
		switch b.Term.Kind {
		case 2:
			b.Term.Else = number(b.other)
			b.Term.To = number(b.to)
		case 1:
			b.Term.To = number(b.to)
		}
		all = append(all, b.RBlock)
	}
	return all
}

// readBody is the body of f, in registers from base on, where call stands.
func readBody(f api.RFn, base int, call api.RIns) []named {
	of := func(r *int) {
		if *r < 0 || *r >= f.Regs {
			*r = -1
		} else {
			*r += base
		}
	}
	fields := []string{"", "D", "DA", "DAB", "DA", "DL", "A", "", "DL"}
	l := readNamed("body", hand.Copied(f))
	for n := range l {
		b := &l[n]
		for k := range b.Ins {
			i := &b.Ins[k]
			i.Deep = call.Deep + 1
			if i.Op < 0 || i.Op >= len(fields) {
				continue
			}
			for _, field := range fields[i.Op] {
				switch field {
				case 'D':
					of(&i.D)
				case 'A':
					of(&i.A)
				case 'B':
					of(&i.B)
				case 'L':
					for at := range i.L {
						of(&i.L[at])
					}
				}
			}
		}
		switch b.Term.Kind {
		case 2:
			of(&b.Term.A)
		case 3:
			of(&b.Term.A)
			b.Ins = append(b.Ins, api.RIns{Op: 2, D: call.D, A: b.Term.A, Deep: call.Deep + 1})
			b.Term, b.to = api.RTerm{Kind: 1}, "rest"
		}
	}
	return l
}

// readOpen is f with the call there laid open.
func readOpen(p api.RProg, f api.RFn, block, ins int) api.RFn {
	l := readNamed("caller", hand.Copied(f))
	head := l[block]
	call := head.Ins[ins]
	callee := p.Fns[call.N]
	base := max(f.Regs, 0)
	rest := head
	rest.name, rest.Ins = "rest", head.Ins[ins+1:]
	head.Ins = slices.Clone(head.Ins[:ins])
	for r := 0; r < callee.Regs; r++ {
		if r < callee.Params && r < len(call.L) {
			head.Ins = append(head.Ins, api.RIns{Op: 2, D: base + r, A: call.L[r], Deep: call.Deep + 1})
		} else {
			head.Ins = append(head.Ins, api.RIns{Op: 1, D: base + r, K: val.Nil(), Deep: call.Deep + 1})
		}
	}
	head.Term, head.to = api.RTerm{Kind: 1}, "body0"
	f.Blocks = readNumbered(slices.Concat(l[:block], []named{head}, readBody(callee, base, call), []named{rest}, l[block+1:]))
	f.Regs = base + max(callee.Regs, 0)
	return f
}

func readBounds(size, deep int) (int, int) {
	if size < 0 {
		size = 0
	}
	if deep < 0 {
		deep = 0
	}
	if deep > 8 {
		deep = 8
	}
	return size, deep
}

// readWants tells whether i is a call that is to be laid open, if there is room.
func readWants(p api.RProg, i api.RIns, size, deep int) bool {
	size, deep = readBounds(size, deep)
	return i.Op == 5 && i.N >= 0 && i.N < len(p.Fns) && !readCyclic(p)[i.N] && sim.Size(p.Fns[i.N]) <= size && i.Deep < deep
}

// most registers that are looked at in the second reading, so that it has room for them.
const manyRegs = 1 << 20

func readFits(f, callee api.RFn) bool {
	return max(f.Regs, 0) <= manyRegs && max(callee.Regs, 0) <= manyRegs && max(f.Regs, 0)+max(callee.Regs, 0) <= 200
}

// readFn is f with its calls laid open, and how many of them.
func readFn(p api.RProg, f api.RFn, size, deep int) (api.RFn, int) {
	f = hand.Copied(f)
	count := 0
again:
	for n, b := range f.Blocks {
		for k, i := range b.Ins {
			if !readWants(p, i, size, deep) || !readFits(f, p.Fns[i.N]) {
				continue
			}
			if g := readOpen(p, f, n, k); len(g.Blocks) <= 2000 && sim.Size(g) <= 14000 {
				f = g
				count++
				goto again
			}
		}
	}
	return f, count
}

func readStays(before, after api.RProg, fn int, i api.RIns, size, deep int) bool {
	if i.Op != 5 {
		return false
	}
	if i.N < 0 || i.N >= len(before.Fns) {
		return true
	}
	f, g := api.RFn{}, before.Fns[i.N]
	if fn < 0 || fn >= len(after.Fns) {
		return !readWants(before, i, size, deep)
	}
	f = after.Fns[fn]
	return !readWants(before, i, size, deep) || !readFits(f, g) || len(f.Blocks)+len(g.Blocks)+1 > 2000 ||
		sim.Size(f)+sim.Size(g)+3*max(g.Regs, 0)+len(g.Blocks) > 14000
}

// counts are what was seen of programs: calls laid open, those in what was laid open already, calls that are left, Cyclic functions, others, calls that may stay and may not.
type counts struct{ opened, within, left, cyclic, others, may, mayNot int }

// expectRead asks that all calls answer of p what the second reading does.
func (n *counts) expectRead(t *testing.T, p api.RProg, size, deep int) {
	t.Helper()
	if got, want := inline.Calls(p), readCalls(p); fmt.Sprint(got) != fmt.Sprint(want) {
		t.Fatal(got, want, short(p))
	}
	cyclic := readCyclic(p)
	if got := inline.Cyclic(p); !slices.Equal(got, cyclic) {
		t.Fatal(got, cyclic, short(p))
	}
	for _, is := range cyclic {
		if is {
			n.cyclic++
		} else {
			n.others++
		}
	}
	want := api.RProg{Fns: make([]api.RFn, len(p.Fns)), Main: p.Main}
	for k, f := range p.Fns {
		g, opened := readFn(p, f, size, deep)
		want.Fns[k] = g
		n.opened += opened
		n.within += max(0, opened-left(f))
		n.left += left(g)
	}
	q := inline.Run(p, size, deep)
	expectMade(t, p, q, want)
	expectStay(t, p, q, size, deep)
	n.expectStays(t, p, p, size, deep)
	n.expectStays(t, p, q, size, deep)
	if e := sim.Check(p); e == api.OK && sim.Check(q) != api.OK {
		t.Fatal(sim.Check(q), short(q), short(p))
	}
}

// expectStays asks of each Ins of after whether it may stay.
func (n *counts) expectStays(t *testing.T, before, after api.RProg, size, deep int) {
	t.Helper()
	for k, f := range after.Fns {
		for _, b := range f.Blocks {
			for _, i := range b.Ins {
				got := inline.Stays(before, after, k, i, size, deep)
				if got != readStays(before, after, k, i, size, deep) {
					t.Fatal(got, k, i, size, deep, short(after), short(before))
				}
				if i.Op == 5 && got {
					n.may++
				} else if i.Op == 5 {
					n.mayNot++
				}
			}
		}
	}
}

// All ways in which four functions may call each other once, and those of three with two calls each.
func TestAllCalls(t *testing.T) {
	var n counts
	for k := range 1 << 12 {
		var l [][]int
		for at := range 4 {
			var to []int
			for other := range 4 {
				if other != at && k>>(at*3+(other-at+3)%4)&1 == 1 {
					to = append(to, other)
				}
			}
			l = append(l, to)
		}
		n.expectRead(t, calling(l...), 20, 8)
	}
	for k := range 4 * 4 * 4 * 4 * 4 * 4 {
		var l [][]int
		for range 3 {
			l = append(l, []int{k%4 - 1, k/4%4 - 1})
			k /= 16
		}
		n.expectRead(t, calling(l...), 20, 1+k%3)
	}
	if n.opened < 5000 || n.within < 1000 || n.left < 10000 || n.cyclic < 5000 || n.others < 5000 || n.mayNot < 5000 {
		t.Error(n)
	}
}

// falling is p, in which each function calls mostly those behind it, so that few come to themselves.
func falling(r *rand.Rand, p api.RProg) api.RProg {
	for n, f := range p.Fns {
		for _, b := range f.Blocks {
			for k := range b.Ins {
				i := &b.Ins[k]
				if i.Op != api.RCall || n == len(p.Fns)-1 || r.Intn(8) == 0 {
					continue
				}
				i.N, i.L = n+1+r.Intn(len(p.Fns)-n-1), nil
				for range p.Fns[i.N].Params {
					i.L = append(i.L, r.Intn(f.Regs))
				}
			}
		}
	}
	return p
}

// someBounds are a size and a deep, at their edges too.
func someBounds(r *rand.Rand, p api.RProg) (size, deep int) {
	size = []int{sim.Size(p.Fns[r.Intn(len(p.Fns))]), sim.Size(p.Fns[r.Intn(len(p.Fns))]) - 1, 12, 40, 400, 400, -1, 14000}[r.Intn(8)]
	return size, []int{3, 8, 1, 2, 4, 5, 9, -1, 0, 8}[r.Intn(10)]
}

func TestLikelyPrograms(t *testing.T) {
	r := rand.New(rand.NewSource(171))
	var n counts
	sound := 0
	for range 15000 {
		p := likely.Registers(r.Intn, 1+r.Intn(8))
		if r.Intn(4) > 0 {
			p = falling(r, p)
		}
		if sim.Check(p) == api.OK {
			sound++
		}
		size, deep := someBounds(r, p)
		n.expectRead(t, p, size, deep)
	}
	for range 300 {
		n.expectRead(t, falling(r, likely.Registers(r.Intn, 40)), 14000, 8)
	}
	if sound < 14000 || n.opened < 5000 || n.within < 500 || n.left < 10000 || n.cyclic < 5000 || n.may < 20000 || n.mayNot < 4000 {
		t.Error(sound, n)
	}
}

// One thing is changed. What Check then refuses is read as it stands.
func TestBlemishedPrograms(t *testing.T) {
	r := rand.New(rand.NewSource(172))
	checked := map[api.Errno]int{}
	var n counts
	for range 12000 {
		p := falling(r, likely.Registers(r.Intn, 6))
		size, deep := someBounds(r, p)
		likely.Blemish(r.Intn, &p)
		checked[sim.Check(p)]++
		n.expectRead(t, p, size, deep)
	}
	if checked[api.OK] < 2000 || checked[api.ErrTick] < 200 || checked[api.ErrForm] < 8000 || n.opened < 5000 || n.within < 500 || n.left < 10000 || n.cyclic < 5000 || n.mayNot < 4000 {
		t.Error(checked, n)
	}
}

// Raw functions call each other.
func TestRawPrograms(t *testing.T) {
	r := rand.New(rand.NewSource(173))
	var n counts
	for range 12000 {
		p := api.RProg{Main: r.Intn(4) - 1}
		for range r.Intn(5) {
			p.Fns = append(p.Fns, likely.Raw(r.Intn))
		}
		for _, f := range p.Fns {
			for _, b := range f.Blocks {
				for k := range b.Ins {
					if i := &b.Ins[k]; r.Intn(4) == 0 {
						i.Op, i.N = api.RCall, r.Intn(len(p.Fns)+1)
					}
				}
			}
		}
		n.expectRead(t, p, r.Intn(30), r.Intn(10))
	}
	if n.opened < 2000 || n.within < 10 || n.left < 20000 || n.cyclic < 5000 || n.others < 10000 {
		t.Error(n)
	}
}

// pieceOf is of how many bytes a function is made, but for the last one.
const pieceOf = 48

// progOf takes any bytes as a program of up to four functions, and as a size and a deep.
func progOf(b []byte) (p api.RProg, size, deep int) {
	if len(b) < 4 {
		return p, 9, 9
	}
	p.Main, size, deep = int(b[1]), int(b[2])-2, int(b[3])-2
	count := int(b[0]) % 5
	b = b[4:]
	for n := range count {
		piece := b
		if n < count-1 {
			piece = b[:min(pieceOf, len(b))]
		}
		p.Fns, b = append(p.Fns, likely.Fn(piece)), b[len(piece):]
	}
	return p, size, deep
}

// seeds are bytes of programs: none; main that calls f, which returns its parameter; one that calls another one twice, which has three blocks and calls f.
func seeds() [][]byte {
	piece := func(l ...byte) []byte { return append(l, make([]byte, pieceOf-len(l))...) }
	ticks := []byte{7, 0, 0, 0, 1, 0, 0, 0, 0, 0}
	calls := func(n, d, a byte) []byte { return []byte{5, d, 0, 0, n, 0, 0, 0, 0, 1, a} }
	f := piece(1, 2, 1, 3, 1, 0, 0, 1, 2, 1, 0, 0, 0, 0, 0, 0, 0, 0)
	mid := piece(slices.Concat([]byte{1, 2, 3, 2, 0, 1, 2, 0, 3, 0, 0, 0, 2}, ticks, calls(2, 1, 0), []byte{3, 1, 0, 0, 0})...)
	return [][]byte{
		{},
		slices.Concat([]byte{2, 0, 20, 5}, piece(slices.Concat([]byte{0, 2, 1, 3, 1, 0, 0, 2}, ticks, calls(1, 1, 0))...), f),
		slices.Concat([]byte{3, 0, 30, 9}, piece(slices.Concat([]byte{0, 2, 2, 1, 0, 1, 0, 2}, ticks, calls(1, 1, 0), []byte{3, 0, 0, 0, 1}, calls(1, 0, 1))...), mid, f),
	}
}

func TestAnyBytes(t *testing.T) {
	r := rand.New(rand.NewSource(174))
	var n counts
	for range 20000 {
		p, size, deep := progOf(likely.Stained(r.Intn, seeds()...))
		n.expectRead(t, p, size, deep)
	}
	if n.opened < 20000 || n.within < 5000 || n.left < 1000 || n.others < 20000 || n.cyclic < 200 {
		t.Error(n)
	}
}

func FuzzInline(f *testing.F) {
	for _, b := range seeds() {
		f.Add(b)
	}
	f.Fuzz(func(t *testing.T, b []byte) {
		p, size, deep := progOf(b)
		new(counts).expectRead(t, p, size, deep)
		if s := hand.TouchedAll(p, reflect.DeepEqual, func(p api.RProg) api.RProg { return inline.Run(p, size, deep) }); s != "" {
			t.Fatal(s)
		}
	})
}
