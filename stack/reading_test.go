package stack_test

import (
	"math"
	"math/rand"
	"slices"
	"testing"

	"ratline/api"
	"ratline/stack"
	"ratline/val"
)

// A second reading of promise 7.2, word by word: what is come to as a set of places with heights, cycles by all ways of all lengths.

// bounds are the least and the greatest A that an Op may have in that function; false of an Op that is none.
func bounds(p api.Prog, f api.SFn, op int) (least, most int, ok bool) {
	switch op {
	case 1:
		return 0, len(f.Consts) - 1, true
	case 2, 3:
		return 0, f.Locals - 1, true
	case 4, 10, 11:
		return 0, 0, true
	case 5:
		return 1, 14, true
	case 6:
		return 15, 20, true
	case 7, 8:
		return 0, len(f.Code) - 1, true
	case 9:
		return 0, len(p.Fns) - 1, true
	case 12:
		return 1, 4095, true
	case 13:
		return 0, 64, true
	}
	return 0, 0, false
}

func readForm(p api.Prog, fn int) bool {
	if fn < 0 || fn > len(p.Fns)-1 {
		return false
	}
	f := p.Fns[fn]
	good := 0 <= f.Params && f.Params <= 8 && f.Params <= f.Locals && f.Locals <= 64 && 1 <= len(f.Code) && len(f.Code) <= 1000
	for _, v := range f.Consts {
		good = good && val.Ok(v)
	}
	for _, i := range f.Code {
		least, most, ok := bounds(p, f, i.Op)
		good = good && ok && least <= i.A && i.A <= most
		b := 0
		if good && i.Op == 9 {
			b = p.Fns[i.A].Params
		}
		good = good && i.B == b
	}
	return good
}

type spot struct{ at, height int }

// readStep is where a spot's instruction leads; false, if the stack has too little for it.
func readStep(f api.SFn, s spot) ([]spot, bool) {
	i, h := f.Code[s.at], s.height
	takes := []int{0, 0, 0, 1, 1, 2, 1, 0, 1, max(0, i.B), 1, 1, 0, max(0, i.A)}[i.Op]
	leaves := []int{0, 1, 1, 0, 0, 1, 1, 0, 0, 1, 0, 0, 0, 1}[i.Op]
	behind := spot{s.at + 1, h - takes + leaves}
	switch {
	case h < takes:
		return nil, false
	case i.Op == 7:
		return []spot{{i.A, h}}, true
	case i.Op == 8:
		return []spot{{i.A, h - 1}, behind}, true
	case i.Op == 10:
		return nil, true
	}
	return []spot{behind}, true
}

// readSpots are all spots that are come to; false, if one of them may not be.
func readSpots(f api.SFn) (map[spot]bool, bool) {
	found, edge := map[spot]bool{}, []spot{{0, 0}}
	for len(edge) > 0 {
		var further []spot
		for _, s := range edge {
			if s.at >= len(f.Code) || s.height > 64 {
				return nil, false
			}
			if found[s] {
				continue
			}
			found[s] = true
			l, ok := readStep(f, s)
			if !ok {
				return nil, false
			}
			further = append(further, l...)
		}
		edge = further
	}
	return found, true
}

// readTicks tells whether what is come to has its STicks.
func readTicks(f api.SFn, heights []int) bool {
	n := len(f.Code)
	way := make([][]bool, n)
	for at := range way {
		way[at] = make([]bool, n)
	}
	for at, i := range f.Code {
		if heights[at] < 0 {
			continue
		}
		if i.Op == 9 && (at == 0 || f.Code[at-1].Op != 12) || (i.Op == 7 || i.Op == 8) && f.Code[i.A].Op == 9 {
			return false
		}
		l, _ := readStep(f, spot{at, 64})
		for _, s := range l {
			way[at][s.at] = i.Op != 12
		}
	}
	for by := range n {
		for from := range n {
			for to := 0; way[from][by] && to < n; to++ {
				way[from][to] = way[from][to] || way[by][to]
			}
		}
	}
	for at := range n {
		if way[at][at] {
			return false
		}
	}
	return true
}

func readHeights(p api.Prog, fn int) ([]int, api.Errno) {
	if !readForm(p, fn) {
		return nil, api.ErrForm
	}
	f := p.Fns[fn]
	spots, ok := readSpots(f)
	heights := slices.Repeat([]int{-1}, len(f.Code))
	for s := range spots {
		ok = ok && heights[s.at] == -1
		heights[s.at] = s.height
	}
	if !ok {
		return nil, api.ErrStack
	}
	if !readTicks(f, heights) {
		return nil, api.ErrTick
	}
	return heights, api.OK
}

func readCheck(p api.Prog) api.Errno {
	if n := len(p.Fns); n < 1 || n > 16 || p.Main < 0 || p.Main >= n || p.Fns[p.Main].Params != 0 {
		return api.ErrForm
	}
	for fn := range p.Fns {
		if _, e := readHeights(p, fn); e != api.OK {
			return e
		}
	}
	return api.OK
}

// expectRead holds a program against the second reading, and answers what Heights says of its first function.
func expectRead(t *testing.T, p api.Prog) api.Errno {
	t.Helper()
	var first api.Errno
	for fn := range p.Fns {
		want, e := readHeights(p, fn)
		got, eh := stack.Heights(p, fn)
		if eh != e || !slices.Equal(got, want) {
			t.Fatalf("Heights of %d of %s: %v, %d; not %v, %d", fn, short(p), got, eh, want, e)
		}
		virtual := 0
		if e == api.OK {
			virtual = p.Fns[fn].Locals + slices.Max(want)
		}
		if n, ev := stack.Virtual(p, fn); n != virtual || ev != e {
			t.Fatalf("Virtual of %d of %s: %d, %d", fn, short(p), n, ev)
		}
		if fn == 0 {
			first = e
		}
	}
	if e := stack.Check(p); e != readCheck(p) {
		t.Fatalf("Check of %s: %d", short(p), e)
	}
	return first
}

// Promises 7.2, W3: accepted just so, of all short codes.

func expectAll(t *testing.T, length int, alphabet []api.SIns) {
	t.Helper()
	p := program(make([]api.SIns, length)...)
	p.Fns = p.Fns[:2]
	seen := map[api.Errno]int{}
	var fill func(at int)
	fill = func(at int) {
		if at == length {
			seen[expectRead(t, p)]++
			return
		}
		for _, i := range alphabet {
			p.Fns[0].Code[at] = i
			fill(at + 1)
		}
	}
	fill(0)
	for _, e := range []api.Errno{api.OK, api.ErrStack, api.ErrTick} {
		if seen[e] == 0 && length > 2 {
			t.Error(length, e, seen)
		}
	}
}

func TestAllShortCodes(t *testing.T) {
	for length := range 4 {
		expectAll(t, length, code(konst(0), load(1), store(0), pop(), bin(1), un(16), jump(0), jump(1), jump(2), brz(0), brz(1), brz(2), call(1, 1), call(0, 0), ret(), out(), tick(1), list(0), list(2), konst(2), ins(14)))
	}
	expectAll(t, 4, code(konst(0), pop(), bin(1), jump(0), jump(1), jump(3), brz(0), brz(2), brz(3), call(0, 0), call(1, 1), ret(), tick(1)))
	expectAll(t, 5, code(konst(0), jump(1), jump(4), brz(0), brz(3), call(0, 0), ret(), tick(1)))
}

// likelyCode is code that is sound more often than not: it knows the heights that it has, and jumps where the height is the same.
func likelyCode(r *rand.Rand, n int, p api.Prog, f api.SFn) []api.SIns {
	l, heights := make([]api.SIns, n), make([]int, n+1)
	for at := range l {
		l[at] = likelyIns(r, heights[at], p, f)
		if at > 0 && r.Intn(3) > 0 && l[at].Op == api.SCall && l[at-1].Op != api.SCall {
			l[at-1], heights[at] = tick(1+r.Intn(4095)), heights[at-1]
			if stack.Pops(l[at]) > heights[at] {
				l[at] = tick(1)
			}
		}
		heights[at+1] = heights[at] - stack.Pops(l[at]) + stack.Pushes(l[at])
		if l[at].Op == api.SRet || l[at].Op == api.SJump {
			heights[at+1] = r.Intn(heights[at] + 1)
		}
	}
	if heights[n-1] == 0 && r.Intn(20) > 0 {
		l[n-1] = jump(0)
	} else if r.Intn(20) > 0 {
		l[n-1] = ret()
	}
	aim(r, l, heights)
	return l
}

func likelyIns(r *rand.Rand, height int, p api.Prog, f api.SFn) api.SIns {
	for {
		fn := r.Intn(len(p.Fns))
		i := code(konst(r.Intn(len(f.Consts))), load(r.Intn(f.Locals)), store(r.Intn(f.Locals)), pop(), bin(1+r.Intn(14)), un(15+r.Intn(6)), jump(0), brz(0), brz(0), call(fn, p.Fns[fn].Params), call(fn, p.Fns[fn].Params), ret(), out(), tick(1+r.Intn(4095)), tick(1), tick(1), list(r.Intn(4)))[r.Intn(17)]
		if stack.Pops(i) <= height && (i.Op != api.SRet || r.Intn(2) == 0) {
			return i
		}
	}
}

// aim leads the jumps to places of their heights, ahead more often than back, if there are such.
func aim(r *rand.Rand, l []api.SIns, heights []int) {
	for at, i := range l {
		if i.Op != api.SJump && i.Op != api.SBrz {
			continue
		}
		l[at].A = min(at+1, len(l)-1)
		for range 12 {
			to := r.Intn(len(l))
			if heights[to] == heights[at]-stack.Pops(i) && l[to].Op != api.SCall && (to > at || r.Intn(4) == 0 || l[to].Op == api.STick) {
				l[at].A = to
				break
			}
		}
	}
}

// likelyProgram is a program of one to four functions of likely code, each with at most n instructions.
func likelyProgram(r *rand.Rand, n int) api.Prog {
	p := api.Prog{Fns: make([]api.SFn, 1+r.Intn(4))}
	for fn := range p.Fns {
		params := r.Intn(4)
		if fn == 0 {
			params = 0
		}
		p.Fns[fn] = api.SFn{Params: params, Locals: params + 1 + r.Intn(3), Consts: []api.Value{val.Int(1), val.Nil()}}
	}
	for fn, f := range p.Fns {
		p.Fns[fn].Code = likelyCode(r, 1+r.Intn(n), p, f)
	}
	return p
}

// blemish changes one thing of a program.
func blemish(r *rand.Rand, p *api.Prog) {
	f := &p.Fns[r.Intn(len(p.Fns))]
	i := &f.Code[r.Intn(len(f.Code))]
	n := []int{-1, 0, 1, 2, 3, 5, 8, 9, 14, 15, 16, 21, 64, 65, 4095, 4096, len(f.Code), len(f.Code) - 1, math.MaxInt, math.MinInt}[r.Intn(20)]
	switch r.Intn(9) {
	case 0:
		i.Op = r.Intn(16) - 1
	case 1, 2, 3:
		i.A = n
	case 4:
		i.B = n
	case 5:
		f.Params = n
	case 6:
		f.Locals = n
	case 7:
		f.Consts = []api.Value{{Kind: r.Intn(6)}}
	case 8:
		p.Main = n
	}
}

func TestLikelyPrograms(t *testing.T) {
	r := rand.New(rand.NewSource(7))
	seen := map[api.Errno]int{}
	for range 12000 {
		p := likelyProgram(r, 20)
		seen[expectRead(t, p)]++
		blemish(r, &p)
		seen[expectRead(t, p)]++
	}
	for _, e := range []api.Errno{api.OK, api.ErrForm, api.ErrStack, api.ErrTick} {
		if seen[e] < 1000 {
			t.Error(e, seen)
		}
	}
}

func TestGreatLikelyPrograms(t *testing.T) {
	r := rand.New(rand.NewSource(77))
	for range 150 {
		p := likelyProgram(r, 120)
		expectRead(t, p)
	}
}

// bytesProgram takes any bytes as a program.
func bytesProgram(b []byte) api.Prog {
	take := func() int {
		if len(b) == 0 {
			return 0
		}
		n := int(int8(b[0]))
		b = b[1:]
		return n
	}
	p := api.Prog{Main: take()}
	for range take() & 3 {
		f := api.SFn{Params: take(), Locals: take(), Consts: make([]api.Value, take()&3)}
		for i := range f.Consts {
			f.Consts[i].Kind = take()
		}
		for range take() & 31 {
			i := api.SIns{Op: take(), A: take()}
			if i.Op < 0 || i.Op == api.SCall {
				i.B = take()
			}
			f.Code = append(f.Code, i)
		}
		p.Fns = append(p.Fns, f)
	}
	return p
}

func TestAnyPrograms(t *testing.T) {
	r := rand.New(rand.NewSource(70))
	for range 20000 {
		b := make([]byte, r.Intn(60))
		for i := range b {
			b[i] = byte(r.Intn(16))
			if r.Intn(12) == 0 {
				b[i] = byte(r.Int())
			}
		}
		expectRead(t, bytesProgram(b))
	}
}

func FuzzCheck(f *testing.F) {
	f.Add([]byte{})
	f.Add([]byte{0, 1, 0, 1, 1, 0, 2, 1, 0, 10, 0})
	f.Add([]byte{0, 1, 0, 1, 1, 0, 5, 12, 7, 1, 0, 8, 0, 1, 0, 10, 0})
	f.Add([]byte{0, 2, 0, 0, 1, 0, 4, 1, 0, 12, 1, 9, 1, 1, 10, 0, 1, 1, 0, 2, 2, 0, 10, 0})
	f.Add([]byte{0, 1, 0, 0, 0, 1, 7, 0})
	f.Fuzz(func(t *testing.T, b []byte) {
		expectRead(t, bytesProgram(b))
	})
}
