package live_test

import (
	"math/rand"
	"slices"
	"testing"

	"ratline/api"
	"ratline/likely"
	"ratline/live"
	"ratline/sim"
)

// A second, slow reading of chapter 13: what is live is asked of each register at each place by going all ways from there, instruction by instruction.

// readUses goes by the Op's list of fields, and tells each number of them that is not below one that was told.
func readUses(i api.RIns) []int {
	all := map[int][]int{2: {i.A}, 3: {i.A, i.B}, 4: {i.A}, 5: i.L, 6: {i.A}, 8: i.L}[i.Op]
	l := []int{}
	for len(all) > len(l) {
		least, is := 0, false
		for _, r := range all {
			if (len(l) == 0 || r > l[len(l)-1]) && (!is || r < least) {
				least, is = r, true
			}
		}
		if !is {
			break
		}
		l = append(l, least)
	}
	return l
}

func readDef(i api.RIns) int {
	if slices.Contains([]int{1, 2, 3, 4, 5, 8}, i.Op) {
		return i.D
	}
	return -1
}

func readEnds(t api.RTerm) []int {
	return map[int][]int{2: {t.A}, 3: {t.A}}[t.Kind]
}

func readPure(i api.RIns) bool {
	isTotal := map[int]int{6: 1, 7: 1, 16: 1}[i.N] == 1
	return map[int]int{1: 1, 2: 1}[i.Op] == 1 || map[int]int{3: 1, 4: 1}[i.Op] == 1 && isTotal
}

// place is that of an Ins of a block, or, behind the last one, of its end.
type place struct{ block, at int }

// lives tells whether some way from a place on reads r ahead of each write.
func lives(f api.RFn, from place, r int) bool {
	seen, open := map[place]int{}, []place{from}
	for len(open) > 0 {
		p := open[len(open)-1]
		open = open[:len(open)-1]
		if seen[p]++; seen[p] > 1 {
			continue
		}
		b := f.Blocks[p.block]
		if p.at == len(b.Ins) {
			if slices.Contains(readEnds(b.Term), r) {
				return true
			}
			open = append(open, starts(f, b.Term)...)
			continue
		}
		if slices.Contains(readUses(b.Ins[p.at]), r) {
			return true
		}
		if readDef(b.Ins[p.at]) != r {
			open = append(open, place{p.block, p.at + 1})
		}
	}
	return false
}

// starts are the first places of the blocks to which an end leads.
func starts(f api.RFn, t api.RTerm) []place {
	var l []place
	if (t.Kind == 1 || t.Kind == 2) && t.To >= 0 && t.To < len(f.Blocks) {
		l = append(l, place{t.To, 0})
	}
	if t.Kind == 2 && t.Else >= 0 && t.Else < len(f.Blocks) {
		l = append(l, place{t.Else, 0})
	}
	return l
}

// named are the numbers of registers that f names anywhere, rising; what nobody names is live nowhere.
func named(f api.RFn) []int {
	var l []int
	for _, b := range f.Blocks {
		for _, i := range b.Ins {
			l = append(append(l, i.D, i.A, i.B), i.L...)
		}
		l = append(l, b.Term.A)
	}
	slices.Sort(l)
	return slices.DeleteFunc(slices.Compact(l), func(r int) bool { return r < 0 || r > 199 })
}

// readAt is what is live ahead of a place, and readOut what is behind a block's end.
func readAt(f api.RFn, names []int, from place) []int {
	return slices.DeleteFunc(slices.Clone(names), func(r int) bool { return !lives(f, from, r) })
}

func readOut(f api.RFn, names []int, n int) []int {
	return slices.DeleteFunc(slices.Clone(names), func(r int) bool {
		return !slices.ContainsFunc(starts(f, f.Blocks[n].Term), func(p place) bool { return lives(f, p, r) })
	})
}

// expectReadIns asks that Uses, Def, Ends and Pure answer of all that f has what the second reading does.
func expectReadIns(t *testing.T, f api.RFn) {
	t.Helper()
	for _, b := range f.Blocks {
		for _, i := range b.Ins {
			if !slices.Equal(live.Uses(i), readUses(i)) || live.Def(i) != readDef(i) || live.Pure(i) != readPure(i) {
				t.Fatal(i, live.Uses(i), live.Def(i), live.Pure(i))
			}
		}
		if l := live.Ends(b.Term); !slices.Equal(l, readEnds(b.Term)) {
			t.Fatal(b.Term, l)
		}
	}
}

// expectRead asks that all calls answer of f what the second reading does, and answers how many are live ahead of all places.
func expectRead(t *testing.T, f api.RFn) int {
	t.Helper()
	expectReadIns(t, f)
	names, all := named(f), 0
	in, behind := live.In(f), live.Out(f)
	if len(in) != len(f.Blocks) || len(behind) != len(f.Blocks) {
		t.Fatal(short(f), len(in), len(behind))
	}
	for n, b := range f.Blocks {
		if want := readOut(f, names, n); !slices.Equal(behind[n], want) {
			t.Fatalf("Out of %s, %d: %v, want %v", short(f), n, behind[n], want)
		}
		l := live.At(f, n)
		if len(l) != len(b.Ins)+1 || !slices.Equal(l[0], in[n]) {
			t.Fatalf("At of %s, %d: %v, In %v", short(f), n, l, in[n])
		}
		for at := range l {
			if want := readAt(f, names, place{n, at}); !slices.Equal(l[at], want) {
				t.Fatalf("At of %s, %d, at %d: %v, want %v", short(f), n, at, l[at], want)
			}
			all += len(l[at])
		}
	}
	return all
}

// Three blocks with all ends that they may have, and codes that read, write, do both, or neither.
func TestAllThreeBlocks(t *testing.T) {
	terms := []api.RTerm{ret(0), ret(1)}
	for to := range 3 {
		terms = append(terms, jump(to))
		for other := range 3 {
			terms = append(terms, br(1, to, other))
		}
	}
	var choices []api.RBlock
	for _, term := range terms {
		choices = append(choices, block(term), block(term, konst(0)), block(term, mov(1, 0)))
	}
	all := 0
	for _, a := range choices {
		for _, b := range choices {
			for _, c := range choices {
				all += expectRead(t, fn(2, a, b, c))
			}
		}
	}
	if all < 100000 {
		t.Error(all)
	}
}

// All short codes of a block that leads back to itself, or on.
func TestAllShortCodes(t *testing.T) {
	alphabet := code(konst(0), konst(2), mov(1, 0), mov(0, 2), mov(2, 2), bin(api.OAdd, 0, 0, 1), bin(api.OEq, 1, 2, 2), un(api.ONot, 2, 1), call(1, 0, 2, 1), call(0, 1), out(0), out(2), tick(5), list(0), list(1, 2, 0, 2))
	var fill func(l []api.RIns, more int)
	fill = func(l []api.RIns, more int) {
		expectRead(t, fn(3, block(br(1, 0, 1), l...), block(ret(0))))
		if more == 0 {
			return
		}
		for _, i := range alphabet {
			fill(append(slices.Clone(l), i), more-1)
		}
	}
	fill(nil, 4)
}

// spread gives f other registers, those at the edges of words, and lets half of its ends lead anywhere.
func spread(r *rand.Rand, f *api.RFn) {
	to := append(edges(), 1)
	r.Shuffle(len(to), func(i, k int) { to[i], to[k] = to[k], to[i] })
	move := func(l ...*int) {
		for _, n := range l {
			*n = to[*n]
		}
	}
	for n := range f.Blocks {
		b := &f.Blocks[n]
		for k := range b.Ins {
			i := &b.Ins[k]
			move(&i.D, &i.A, &i.B)
			for at := range i.L {
				move(&i.L[at])
			}
		}
		move(&b.Term.A)
		if r.Intn(2) == 0 {
			b.Term.To, b.Term.Else = r.Intn(len(f.Blocks)), r.Intn(len(f.Blocks))
		}
	}
	f.Regs = 200
}

func TestLikelyFunctions(t *testing.T) {
	r := rand.New(rand.NewSource(13))
	sound, all := 0, 0
	for range 3000 {
		p := likely.Registers(r.Intn, 7)
		if sim.Check(p) == api.OK {
			sound++
		}
		for _, f := range p.Fns {
			all += expectRead(t, f)
			spread(r, &f)
			all += expectRead(t, f)
		}
	}
	if sound < 2000 || all < 200000 {
		t.Error(sound, all)
	}
}

func TestGreatLikelyFunctions(t *testing.T) {
	r := rand.New(rand.NewSource(131))
	for range 50 {
		for _, f := range likely.Registers(r.Intn, 60).Fns {
			expectRead(t, f)
			spread(r, &f)
			expectRead(t, f)
		}
	}
}

// One thing is changed. What Check then refuses is read as it stands, as far as it names registers that there may be.
func TestBlemishedFunctions(t *testing.T) {
	r := rand.New(rand.NewSource(132))
	checked := map[api.Errno]int{}
	for range 12000 {
		p := likely.Registers(r.Intn, 5)
		likely.Blemish(r.Intn, &p)
		checked[sim.Check(p)]++
		for _, f := range p.Fns {
			expectRead(t, f)
		}
	}
	if checked[api.OK] < 1000 || checked[api.ErrTick] < 200 || checked[api.ErrForm] < 3000 {
		t.Error(checked)
	}
}

// seeds are bytes of functions: the chapter's example, a loop, a call and a list.
func seeds() [][]byte {
	return [][]byte{
		{},
		{0, 2, 1, 3, 1, 0, 0, 1, 2, 1, 0, 0, 0, 0, 0, 0, 0, 0},
		{0, 200, 3, 1, 0, 1, 0, 1, 1, 199, 0, 0, 0, 0, 0, 0, 0, 0, 2, 64, 0, 2, 2, 3, 64, 63, 199, 8, 0, 0, 0, 0, 0, 7, 0, 0, 0, 1, 0, 0, 0, 0, 0, 3, 128, 0, 0, 0},
		{0, 9, 1, 3, 8, 0, 0, 3, 7, 0, 0, 0, 4, 0, 0, 0, 0, 0, 5, 8, 0, 0, 1, 0, 0, 0, 0, 3, 3, 3, 1, 8, 8, 0, 0, 0, 0, 0, 0, 0, 2, 8, 1},
	}
}

func TestAnyBytes(t *testing.T) {
	r := rand.New(rand.NewSource(133))
	all := 0
	for range 20000 {
		b := slices.Clone(seeds()[r.Intn(4)])
		for range r.Intn(60) {
			b = append(b, byte(r.Intn(9)))
		}
		for range r.Intn(6) {
			if len(b) > 0 {
				b[r.Intn(len(b))] = []byte{byte(r.Intn(9)), byte(r.Int())}[r.Intn(2)]
			}
		}
		all += expectRead(t, likely.Fn(b))
	}
	if all < 20000 {
		t.Error(all)
	}
}

func FuzzLive(f *testing.F) {
	for _, b := range seeds() {
		f.Add(b)
	}
	f.Fuzz(func(t *testing.T, b []byte) {
		expectRead(t, likely.Fn(b))
	})
}
