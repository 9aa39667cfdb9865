package color_test

import (
	"cmp"
	"math/rand"
	"slices"
	"testing"

	"ratline/api"
	"ratline/color"
	"ratline/hand"
	"ratline/likely"
	"ratline/live"
	"ratline/sim"
)

// A second, slow reading of chapter 18: all positions of each register are told, and registers of the machine are gone through one by one.

func readPositions(f api.RFn) []int {
	var l []int
	for n := range f.Blocks {
		at := 1
		for _, b := range f.Blocks[:n] {
			at += len(b.Ins) + 1
		}
		l = append(l, at)
	}
	return l
}

// seenAt has of each register all positions at which it is live ahead of what stands there, or written by it.
func seenAt(f api.RFn) [][]int {
	l := make([][]int, 200)
	at := 0
	for n, b := range f.Blocks {
		for k, ahead := range live.At(f, n) {
			at++
			for _, r := range ahead {
				l[r] = append(l[r], at)
			}
			if k < len(b.Ins) {
				if d := live.Def(b.Ins[k]); d >= 0 && d < 200 {
					l[d] = append(l[d], at)
				}
			}
		}
	}
	return l
}

func readIntervals(f api.RFn) []color.Interval {
	seen, size := seenAt(f), 0
	for _, b := range f.Blocks {
		size += len(b.Ins) + 1
	}
	for r, l := range seen {
		if r < f.Params && len(l) > 0 {
			seen[r] = append(l, 0)
		}
	}
	var all []color.Interval
	for start := range size + 1 {
		for r, l := range seen {
			if len(l) > 0 && slices.Min(l) == start {
				all = append(all, color.Interval{Reg: r, Start: start, End: slices.Max(l)})
			}
		}
	}
	return all
}

// longer tells whether interval a of l is needed longer than b: the greatest End, the greatest Reg, the one that came last.
func longer(l []color.Interval, a, b int) bool {
	if l[a].End != l[b].End {
		return l[a].End > l[b].End
	}
	if l[a].Reg != l[b].Reg {
		return l[a].Reg > l[b].Reg
	}
	return a > b
}

func readAssign(l []color.Interval, n int) []color.Place {
	places := make([]color.Place, len(l))
	holder := map[int]int{} // of a register of the machine
	slots := 0
	for k, i := range l {
		places[k] = color.Place{Reg: i.Reg, Phys: -1, Slot: -1}
		for r, h := range holder {
			if l[h].End < i.Start {
				delete(holder, r)
			}
		}
		for r := 0; r < max(n, 1) && places[k].Phys < 0; r++ {
			if _, is := holder[r]; !is {
				places[k].Phys, holder[r] = r, k
			}
		}
		if places[k].Phys >= 0 {
			continue
		}
		longest := k
		for _, h := range holder {
			if longer(l, h, longest) {
				longest = h
			}
		}
		if longest != k {
			r := places[longest].Phys
			places[k].Phys, places[longest].Phys, holder[r] = r, -1, k
		}
		places[longest].Slot = slots
		slots++
	}
	return places
}

func readSlots(l []color.Place) int {
	count := 0
	for _, p := range l {
		if p.Slot >= 0 {
			count++
		}
	}
	return count
}

// expectReadPlaces asks that Assign and Slots answer what the second reading does, and tells how many slots there are.
func expectReadPlaces(t *testing.T, l []color.Interval, n int) int {
	t.Helper()
	got, want := color.Assign(l, n), readAssign(l, n)
	if !slices.Equal(got, want) {
		t.Fatalf("Assign of %s, %d: %s, want %s", short(l), n, short(got), short(want))
	}
	if color.Slots(got) != readSlots(want) {
		t.Fatalf("Slots of %s: %d", short(got), color.Slots(got))
	}
	return readSlots(want)
}

// counts counts what was told of functions.
type counts struct{ intervals, params, long, slots int }

// expectRead asks that all calls answer of f what the second reading does, and that what they answer is apart.
func (c *counts) expectRead(t *testing.T, f api.RFn) {
	t.Helper()
	if l := color.Positions(f); !slices.Equal(l, readPositions(f)) {
		t.Fatalf("Positions of %s: %s", short(f), short(l))
	}
	l := color.Intervals(f)
	if want := readIntervals(f); !slices.Equal(l, want) {
		t.Fatalf("Intervals of %s: %s, want %s", short(f), short(l), short(want))
	}
	for _, i := range l {
		c.intervals++
		if i.Start == 0 {
			c.params++
		}
		if i.End > i.Start+3 {
			c.long++
		}
	}
	for _, n := range []int{0, 1, 2, 3, 5, 200} {
		c.slots += expectReadPlaces(t, l, n)
		expectApart(t, l, n)
	}
}

// Three blocks with all ends that they may have, and codes that read, write, do both, or neither.
func TestAllThreeBlocks(t *testing.T) {
	terms := []api.RTerm{ret(0), ret(1)}
	for to := range 3 {
		terms = append(terms, jump(to))
		for other := range to {
			terms = append(terms, br(1, to, other))
		}
	}
	var choices []api.RBlock
	for _, term := range terms {
		choices = append(choices, block(term), block(term, konst(0)), block(term, mov(1, 0)))
	}
	var c counts
	for _, first := range choices {
		for _, second := range choices {
			for _, third := range choices {
				f := fn(1, 2, first, second, third)
				if l := color.Intervals(f); !slices.Equal(l, readIntervals(f)) {
					t.Fatal(f, l)
				}
				c.intervals++
			}
		}
	}
	if c.intervals < 10000 {
		t.Error(c)
	}
}

// All short codes of a block that leads back to itself, or on.
func TestAllShortCodes(t *testing.T) {
	alphabet := hand.Code(konst(0), konst(2), mov(1, 0), mov(2, 2), bin(api.OAdd, 0, 0, 1), call(1, 0, 2, 1), out(2), tick(5), list(1, 2, 0, 2))
	var fill func(l []api.RIns, more int)
	fill = func(l []api.RIns, more int) {
		f := fn(1, 3, block(br(1, 0, 1), l...), block(ret(0)))
		if got := color.Intervals(f); !slices.Equal(got, readIntervals(f)) {
			t.Fatal(f, got)
		}
		if more == 0 {
			return
		}
		for _, i := range alphabet {
			fill(append(slices.Clone(l), i), more-1)
		}
	}
	fill(nil, 4)
}

// All lists of up to four intervals of few positions and two registers, an End below its Start among them, in any order.
func TestAllFewIntervals(t *testing.T) {
	var choices []color.Interval
	for n := range 2 * 3 * 3 {
		choices = append(choices, color.Interval{Reg: n % 2, Start: n / 2 % 3, End: n / 6})
	}
	slots := 0
	var fill func(l []color.Interval, more int)
	fill = func(l []color.Interval, more int) {
		for n := range 4 {
			slots += expectReadPlaces(t, l, n)
		}
		if more == 0 {
			return
		}
		for _, i := range choices {
			fill(append(slices.Clone(l), i), more-1)
		}
	}
	fill(nil, 4)
	if slots < 300000 {
		t.Error(slots)
	}
}

// Intervals in any order, of numbers that are near one another, or far away.
func TestAnyIntervals(t *testing.T) {
	r := rand.New(rand.NewSource(180))
	far := []int{-1 << 63, -1<<63 + 1, -1, 0, 1, 1<<63 - 2, 1<<63 - 1}
	slots := 0
	for range 40000 {
		l := make([]color.Interval, r.Intn(30))
		wide := 1 + r.Intn(20)
		for k := range l {
			i := &l[k]
			i.Reg, i.Start = r.Intn(1+r.Intn(30)), r.Intn(wide)
			i.End = i.Start + r.Intn(1+r.Intn(wide)) - r.Intn(2)
			if r.Intn(40) == 0 {
				*[]*int{&i.Reg, &i.Start, &i.End}[r.Intn(3)] = far[r.Intn(len(far))]
			}
		}
		slots += expectReadPlaces(t, l, r.Intn(9)-1)
		slices.SortFunc(l, func(a, b color.Interval) int { return cmp.Compare(a.Start, b.Start) })
		slots += expectReadPlaces(t, l, r.Intn(9)-1)
		l = slices.DeleteFunc(l, func(i color.Interval) bool { return i.End < i.Start })
		expectApart(t, l, r.Intn(9)-1)
	}
	if slots < 100000 {
		t.Error(slots)
	}
}

func TestLikelyFunctions(t *testing.T) {
	r := rand.New(rand.NewSource(181))
	var c counts
	sound := 0
	for range 3000 {
		p := likely.Registers(r.Intn, 7)
		if sim.Check(p) == api.OK {
			sound++
		}
		for _, f := range p.Fns {
			c.expectRead(t, f)
		}
	}
	if sound < 2000 || c.intervals < 20000 || c.params < 5000 || c.long < 10000 || c.slots < 30000 {
		t.Error(sound, c)
	}
}

func TestGreatLikelyFunctions(t *testing.T) {
	r := rand.New(rand.NewSource(182))
	var c counts
	for range 60 {
		for _, f := range likely.Registers(r.Intn, 60).Fns {
			c.expectRead(t, f)
			for n := range f.Blocks {
				for k := range f.Blocks[n].Ins { // more registers
					i := &f.Blocks[n].Ins[k]
					i.D = (i.D + 31*r.Intn(6)) % 200
				}
			}
			c.expectRead(t, f)
		}
	}
	if c.intervals < 2000 || c.slots < 5000 {
		t.Error(c)
	}
}

// One thing is changed. What Check then refuses is read as it stands, as far as it names registers that there may be.
func TestBlemishedFunctions(t *testing.T) {
	r := rand.New(rand.NewSource(183))
	var c counts
	checked := map[api.Errno]int{}
	for range 4000 {
		p := likely.Registers(r.Intn, 5)
		likely.Blemish(r.Intn, &p)
		checked[sim.Check(p)]++
		for _, f := range p.Fns {
			c.expectRead(t, f)
		}
	}
	if checked[api.OK] < 300 || checked[api.ErrTick] < 60 || checked[api.ErrForm] < 1000 || c.slots < 20000 {
		t.Error(checked, c)
	}
}

// seeds are bytes of functions: the simplest one, a loop, a call and a list.
func seeds() [][]byte {
	return [][]byte{
		{},
		{0, 2, 1, 3, 1, 0, 0, 1, 2, 1, 0, 0, 0, 0, 0, 0, 0, 0},
		{1, 200, 3, 1, 0, 1, 0, 1, 1, 199, 0, 0, 0, 0, 0, 0, 0, 0, 2, 64, 0, 2, 2, 3, 64, 63, 199, 8, 0, 0, 0, 0, 0, 7, 0, 0, 0, 1, 0, 0, 0, 0, 0, 3, 128, 0, 0, 0},
		{2, 9, 1, 3, 8, 0, 0, 3, 7, 0, 0, 0, 4, 0, 0, 0, 0, 0, 5, 8, 0, 0, 1, 0, 0, 0, 0, 3, 3, 3, 1, 8, 8, 0, 0, 0, 0, 0, 0, 0, 2, 8, 1},
	}
}

func TestAnyBytes(t *testing.T) {
	r := rand.New(rand.NewSource(184))
	var c counts
	for range 10000 {
		c.expectRead(t, likely.Fn(likely.Stained(r.Intn, seeds()...)))
	}
	if c.intervals < 10000 || c.params < 3000 || c.slots < 10000 {
		t.Error(c)
	}
}

// intervalsOf takes bytes as intervals, three for each, and the first one as how many registers there are.
func intervalsOf(b []byte) ([]color.Interval, int) {
	if len(b) == 0 {
		return nil, 0
	}
	var l []color.Interval
	for k := 1; k+2 < len(b); k += 3 {
		l = append(l, color.Interval{Reg: int(b[k]), Start: int(int8(b[k+1])), End: int(int8(b[k+2]))})
	}
	return l, int(b[0] % 9)
}

func FuzzColor(f *testing.F) {
	for _, b := range seeds() {
		f.Add(b)
	}
	f.Add([]byte{1, 0, 1, 9, 1, 2, 3})
	f.Add([]byte{2, 5, 1, 9, 7, 1, 9, 6, 1, 9, 6, 9, 1})
	f.Fuzz(func(t *testing.T, b []byte) {
		new(counts).expectRead(t, likely.Fn(b))
		l, n := intervalsOf(b)
		expectReadPlaces(t, l, n)
	})
}
