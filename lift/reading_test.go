package lift_test

import (
	"fmt"
	"math"
	"math/rand"
	"slices"
	"testing"

	"ratline/api"
	"ratline/lift"
	"ratline/stack"
	"ratline/val"
)

// A second reading of promise 11.2, to hold all calls against: of each place it is asked by itself whether it leads, of each place which block it is in, and the table is read as it is written.

// readLeads tells whether a block begins at a place of code with those heights.
func readLeads(l []api.SIns, heights []int, at int) bool {
	leads := at == 0
	for from, i := range l {
		if heights[from] >= 0 {
			leads = leads || (i.Op == 7 || i.Op == 8) && i.A == at || i.Op == 8 && from+1 == at
		}
	}
	return leads && heights[at] >= 0
}

// readBlock is how many blocks begin ahead of a place.
func readBlock(leaders []int, at int) int {
	n := 0
	for _, ahead := range leaders {
		if ahead < at {
			n++
		}
	}
	return n
}

func upTo(from, to int) []int {
	l := []int{}
	for r := from; r <= to; r++ {
		l = append(l, r)
	}
	return l
}

// readIns is the table: an instruction that stands k locals and h values high.
func readIns(f api.SFn, i api.SIns, k, h int) []api.RIns {
	switch i.Op {
	case 1:
		return []api.RIns{{Op: 1, D: k + h, K: f.Consts[i.A]}}
	case 2:
		return []api.RIns{{Op: 2, D: k + h, A: i.A}}
	case 3:
		return []api.RIns{{Op: 2, D: i.A, A: k + h - 1}}
	case 5:
		return []api.RIns{{Op: 3, N: i.A, D: k + h - 2, A: k + h - 2, B: k + h - 1}}
	case 6:
		return []api.RIns{{Op: 4, N: i.A, D: k + h - 1, A: k + h - 1}}
	case 9:
		return []api.RIns{{Op: 5, N: i.A, D: k + h - i.B, L: upTo(k+h-i.B, k+h-1)}}
	case 11:
		return []api.RIns{{Op: 6, A: k + h - 1}}
	case 12:
		return []api.RIns{{Op: 7, N: i.A}}
	case 13:
		return []api.RIns{{Op: 8, D: k + h - i.A, L: upTo(k+h-i.A, k+h-1)}}
	}
	return nil
}

// readEnd is the end of a block whose last instruction stands at that place.
func readEnd(f api.SFn, leaders []int, at, h int) api.RTerm {
	i, top := f.Code[at], f.Locals+h-1
	switch i.Op {
	case 7:
		return api.RTerm{Kind: 1, To: readBlock(leaders, i.A)}
	case 8:
		return api.RTerm{Kind: 2, A: top, To: readBlock(leaders, at+1), Else: readBlock(leaders, i.A)}
	case 10:
		return api.RTerm{Kind: 3, A: top}
	}
	return api.RTerm{Kind: 1, To: readBlock(leaders, at+1)}
}

func readFn(p api.Prog, fn int) (api.RFn, []int, api.Errno) {
	heights, e := stack.Heights(p, fn)
	if e != api.OK {
		return api.RFn{}, nil, e
	}
	regs, e := stack.Virtual(p, fn)
	if e != api.OK {
		return api.RFn{}, nil, e
	}
	f := p.Fns[fn]
	r := api.RFn{Name: f.Name, Params: f.Params, Regs: regs}
	if regs < 1 {
		r.Regs = 1
	}
	var leaders []int
	for at := range f.Code {
		if readLeads(f.Code, heights, at) {
			leaders = append(leaders, at)
			r.Blocks = append(r.Blocks, api.RBlock{})
		}
	}
	for at, i := range f.Code {
		if heights[at] < 0 {
			continue
		}
		b := &r.Blocks[readBlock(leaders, at+1)-1]
		b.Ins = append(b.Ins, readIns(f, i, f.Locals, heights[at])...)
		if slices.Contains([]int{7, 8, 10}, i.Op) || slices.Contains(leaders, at+1) {
			b.Term = readEnd(f, leaders, at, heights[at])
		}
	}
	return r, leaders, api.OK
}

// same tells whether two things are the same in all their fields; no list is as good as an empty one.
func same(a, b any) bool { return fmt.Sprint(a) == fmt.Sprint(b) }

// expectRead holds a program against the second reading, and answers what Program says of it.
func expectRead(t *testing.T, p api.Prog) api.Errno {
	t.Helper()
	want, whole := api.RProg{Main: p.Main}, stack.Check(p)
	for fn := range p.Fns {
		f, leaders, e := readFn(p, fn)
		want.Fns = append(want.Fns, f)
		got, eg := lift.Fn(p, fn)
		if eg != e || !same(got, f) || e == api.OK && tell(got) != tell(f) {
			t.Fatalf("Fn %d of %s: %s, %d\nwant %s, %d", fn, short(p), short(got), eg, short(f), e)
		}
		if l, el := lift.Leaders(p, fn); el != e || !slices.Equal(l, leaders) {
			t.Fatalf("Leaders %d of %s: %v, %d, want %v, %d", fn, short(p), l, el, leaders, e)
		}
	}
	if whole != api.OK {
		want = api.RProg{}
	}
	if q, e := lift.Program(p); e != whole || !same(q, want) {
		t.Fatalf("Program of %s: %s, %d, want %s, %d", short(p), short(q), e, short(want), whole)
	}
	return whole
}

// W3: lifted just if it is sound, and 11.2, of all short codes.

func expectAll(t *testing.T, length int, alphabet ...api.SIns) {
	t.Helper()
	p := program(make([]api.SIns, length)...)
	p.Fns = p.Fns[:2]
	seen := map[api.Errno]int{}
	var fill func(at int)
	fill = func(at int) {
		if at == length {
			seen[expectRead(t, p)]++
			return
		}
		for _, i := range alphabet {
			p.Fns[0].Code[at] = i
			fill(at + 1)
		}
	}
	fill(0)
	for _, e := range []api.Errno{api.OK, api.ErrStack, api.ErrTick} {
		if seen[e] == 0 && length > 2 {
			t.Error(length, e, seen)
		}
	}
}

func TestAllShortCodes(t *testing.T) {
	for length := range 4 {
		expectAll(t, length, konst(0), load(1), store(0), pop(), bin(1), un(16), jump(0), jump(2), brz(0), brz(1), brz(2), call(1, 1), call(0, 0), ret(), out(), tick(1), list(0), list(2), konst(2), ins(14))
	}
	expectAll(t, 4, konst(0), pop(), bin(1), jump(0), jump(3), brz(0), brz(2), brz(3), call(0, 0), ret(), tick(1))
	expectAll(t, 5, konst(0), jump(4), brz(0), brz(3), call(0, 0), ret(), tick(1))
	expectAll(t, 6, konst(0), jump(4), brz(0), brz(4), ret(), tick(1))
}

// likelyCode is code that is sound more often than not: it knows the heights that it has, and jumps where the height is the same.
func likelyCode(r *rand.Rand, n int, p api.Prog, f api.SFn) []api.SIns {
	l, heights := make([]api.SIns, 0, n), []int{0}
	add := func(i api.SIns) {
		h := heights[len(l)]
		l = append(l, i)
		h += stack.Pushes(i) - stack.Pops(i)
		if i.Op == api.SRet || i.Op == api.SJump { // only a jump comes to what stands behind
			h = r.Intn(h + 2)
		}
		heights = append(heights, h)
	}
	for len(l) < n {
		i := likelyIns(r, p, f)
		switch h := heights[len(l)]; {
		case stack.Pops(i) > h || h > 60:
			add(konst(r.Intn(len(f.Consts))))
		case i.Op == api.SCall:
			add(tick(1 + r.Intn(4095)))
			add(i)
		default:
			add(i)
		}
	}
	if heights[len(l)] == 0 {
		add(load(0))
	}
	add(ret())
	aim(r, l, heights)
	return l
}

func likelyIns(r *rand.Rand, p api.Prog, f api.SFn) api.SIns {
	fn := r.Intn(len(p.Fns))
	some := code(konst(r.Intn(len(f.Consts))), konst(r.Intn(len(f.Consts))), load(r.Intn(f.Locals)), load(r.Intn(f.Locals)), store(r.Intn(f.Locals)), store(r.Intn(f.Locals)), pop(), bin(1+r.Intn(14)), bin(api.OAdd), bin(api.OEq), un(api.ONot), un(15+r.Intn(6)), jump(0), brz(0), brz(0), brz(0), call(fn, p.Fns[fn].Params), call(fn, p.Fns[fn].Params), out(), out(), tick(1+r.Intn(9)), list(r.Intn(4)), ret())
	return some[r.Intn(len(some))]
}

// aim leads the jumps to places of their heights, back mostly to STicks.
func aim(r *rand.Rand, l []api.SIns, heights []int) {
	for at, i := range l {
		if i.Op != api.SJump && i.Op != api.SBrz {
			continue
		}
		l[at].A = at + 1
		for range 12 {
			to := r.Intn(len(l))
			if heights[to] == heights[at]-stack.Pops(i) && l[to].Op != api.SCall && (to > at || l[to].Op == api.STick || r.Intn(60) == 0) {
				l[at].A = to
				break
			}
		}
	}
}

// likelyProgram is a program of one to four functions of likely code.
func likelyProgram(r *rand.Rand, n int) api.Prog {
	p := api.Prog{Fns: make([]api.SFn, 1+r.Intn(4))}
	p.Main = r.Intn(len(p.Fns))
	for fn := range p.Fns {
		params := r.Intn(4)
		if fn == p.Main {
			params = 0
		}
		some := values(val.Int(1), val.Nil(), val.Int(int64(r.Intn(5))), val.Text("ab"), val.List(values(val.Int(1), val.List(nil))), val.Cx(1i), val.Int(0))
		r.Shuffle(len(some), func(i, k int) { some[i], some[k] = some[k], some[i] })
		p.Fns[fn] = api.SFn{Name: fmt.Sprint("f", fn), Params: params, Locals: params + 1 + r.Intn(3), Consts: some[:2+r.Intn(4)]}
	}
	for fn, f := range p.Fns {
		p.Fns[fn].Code = likelyCode(r, 1+r.Intn(n), p, f)
	}
	return p
}

// blemish changes one thing of a program.
func blemish(r *rand.Rand, p *api.Prog) {
	f := &p.Fns[r.Intn(len(p.Fns))]
	i := &f.Code[r.Intn(len(f.Code))]
	far := []int{-1, 0, 1, 2, 3, 5, 7, 8, 9, 10, 12, 14, 15, 16, 21, 64, 65, 4095, 4096, len(f.Code), len(f.Code) - 1, math.MaxInt, math.MinInt}
	l := []*int{&i.Op, &i.A, &i.A, &i.A, &i.B, &f.Params, &f.Locals, &p.Main, &f.Consts[0].Kind}
	*l[r.Intn(len(l))] = far[r.Intn(len(far))]
}

func TestLikelyPrograms(t *testing.T) {
	r := rand.New(rand.NewSource(11))
	seen := map[api.Errno]int{}
	for range 4000 {
		p := likelyProgram(r, 30)
		seen[expectRead(t, p)]++
		blemish(r, &p)
		seen[expectRead(t, p)]++
	}
	for _, e := range []api.Errno{api.OK, api.ErrForm, api.ErrStack} {
		if seen[e] < 500 {
			t.Error(e, seen)
		}
	}
	if seen[api.ErrTick] < 50 {
		t.Error(seen)
	}
}

func TestGreatLikelyPrograms(t *testing.T) {
	r := rand.New(rand.NewSource(111))
	for range 60 {
		expectRead(t, likelyProgram(r, 150))
	}
}

// bytesProgram takes any bytes as a program.
func bytesProgram(b []byte) api.Prog {
	take := func() int {
		if len(b) == 0 {
			return 0
		}
		n := int(int8(b[0]))
		b = b[1:]
		return n
	}
	p := api.Prog{Main: take()}
	for range take() & 3 {
		f := api.SFn{Params: take(), Locals: take()}
		for range take() & 3 {
			f.Consts = append(f.Consts, []api.Value{val.Nil(), val.Int(int64(take())), val.Text("ab"), val.List(values(val.Int(1))), val.Cx(2i), {Kind: 9}}[take()&255%6])
		}
		for range take() & 31 {
			i := api.SIns{Op: take(), A: take()}
			if i.Op < 0 || i.Op == api.SCall {
				i.B = take()
			}
			f.Code = append(f.Code, i)
		}
		p.Fns = append(p.Fns, f)
	}
	return p
}

func TestAnyBytes(t *testing.T) {
	r := rand.New(rand.NewSource(110))
	for range 20000 {
		b := make([]byte, r.Intn(60))
		for i := range b {
			b[i] = byte(r.Intn(16))
			if r.Intn(12) == 0 {
				b[i] = byte(r.Int())
			}
		}
		expectRead(t, bytesProgram(b))
	}
}

func FuzzProgram(f *testing.F) {
	f.Add([]byte{})
	f.Add([]byte{0, 1, 0, 1, 1, 3, 1, 4, 1, 0, 11, 0, 2, 0, 10, 0})
	f.Add([]byte{0, 1, 0, 1, 1, 0, 0, 5, 12, 7, 1, 0, 8, 0, 1, 0, 10, 0})
	f.Add([]byte{0, 2, 0, 0, 1, 5, 1, 4, 1, 0, 12, 1, 9, 1, 1, 10, 0, 1, 1, 0, 4, 2, 0, 12, 3, 9, 1, 1, 10, 0})
	f.Add([]byte{0, 1, 0, 0, 0, 1, 7, 0})
	f.Fuzz(func(t *testing.T, b []byte) {
		expectRead(t, bytesProgram(b))
	})
}
