package color_test

import (
	"math/rand"
	"slices"
	"testing"

	"ratline/api"
	"ratline/blocks"
	"ratline/color"
	"ratline/hand"
	"ratline/likely"
	"ratline/live"
	"ratline/sim"
)

// Promise 18.3, W6: no two that overlap have one register or slot, and a slot is given only where there is need.

// mostAt is how many of l at most have a position of i in common: a position at which one begins.
func mostAt(l []color.Interval, i color.Interval) int {
	most := 0
	for _, a := range l {
		at, count := max(a.Start, i.Start), 0
		if at > min(a.End, i.End) {
			continue
		}
		for _, b := range l {
			if b.Start <= at && at <= b.End {
				count++
			}
		}
		most = max(most, count)
	}
	return most
}

// expectApart asks what 18.3 promises of intervals that stand by their Start, and that each has one register or slot of those that there are.
func expectApart(t *testing.T, l []color.Interval, n int) {
	t.Helper()
	n = max(n, 1)
	places := color.Assign(l, n)
	seen := make([]int, color.Slots(places))
	for k, p := range places {
		switch {
		case p.Slot == -1 && p.Phys >= 0 && p.Phys < n:
		case p.Phys == -1 && p.Slot >= 0:
			seen[p.Slot]++
			if mostAt(l, l[k]) <= n {
				t.Fatalf("%v of %s, %d has slot %d", l[k], short(l), n, p.Slot)
			}
		default:
			t.Fatal(p)
		}
		for other, q := range places[:k] {
			if color.Overlap(l[k], l[other]) && p.Phys == q.Phys && p.Slot == q.Slot {
				t.Fatalf("%v and %v of %s, %d have one place", l[k], l[other], short(l), n)
			}
		}
	}
	for slot, times := range seen {
		if times != 1 {
			t.Fatalf("slot %d of %s, %d: %d times", slot, short(l), n, times)
		}
	}
}

// All lists of up to four intervals by their Start.
func TestAllSortedIntervals(t *testing.T) {
	var choices []color.Interval
	for start := range 4 {
		for end := start; end < 5; end++ {
			choices = append(choices, between(start, end))
		}
	}
	count := 0
	var fill func(l []color.Interval, more int)
	fill = func(l []color.Interval, more int) {
		for n := 1; n < 4; n++ {
			expectApart(t, l, n)
		}
		count++
		if more == 0 {
			return
		}
		for _, i := range choices {
			if len(l) == 0 || i.Start >= l[len(l)-1].Start {
				i.Reg = len(l)
				fill(append(slices.Clone(l), i), more-1)
			}
		}
	}
	fill(nil, 4)
	if count != 6951 {
		t.Error(count)
	}
}

// renamed is f with each register in its place, registers of the machine and behind them slots, all of them behind the parameters, which a block of its own moves there; false, if that is more than there may be. (Parameters stand first by the call, so that the first registers cannot be used for others.)
func renamed(f api.RFn, n int) (api.RFn, bool) {
	l := color.Assign(color.Intervals(f), n)
	place := map[int]int{}
	entry := block(jump(1))
	for _, p := range l {
		place[p.Reg] = f.Params + p.Phys
		if p.Slot >= 0 {
			place[p.Reg] = f.Params + n + p.Slot
		}
		if p.Reg < f.Params {
			entry.Ins = append(entry.Ins, mov(place[p.Reg], p.Reg))
		}
	}
	to := func(r int) int { return place[r] }
	g := blocks.Own(f)
	g.Regs = max(1, f.Params+n+color.Slots(l))
	for k := range g.Blocks {
		b := &g.Blocks[k]
		for at := range b.Ins {
			i := &b.Ins[at]
			blocks.Read(i, to)
			if live.Def(*i) >= 0 {
				i.D = to(i.D)
			}
		}
		if len(live.Ends(b.Term)) > 0 {
			b.Term.A = to(b.Term.A)
		}
		b.Term = blocks.Led(b.Term, func(n int) int { return n + 1 })
	}
	g.Blocks = slices.Insert(g.Blocks, 0, entry)
	return g, g.Regs <= api.MaxVirtual
}

// apart counts programs whose registers were renamed.
type apart struct {
	hand.Tried
	shared, slots int
}

// expectSame asks that p with all registers in their places tells what it told, whatever the fuel is.
func (c *apart) expectSame(t *testing.T, p api.RProg) {
	t.Helper()
	if sim.Check(p) != api.OK {
		return
	}
	var others []api.RProg
	for _, n := range []int{1, 2, 3, 8} {
		fits := true
		q := hand.Mapped(p, func(f api.RFn) api.RFn {
			g, ok := renamed(f, n)
			fits = fits && ok
			l := color.Assign(color.Intervals(f), n)
			c.slots += color.Slots(l)
			c.shared += max(0, len(l)-color.Slots(l)-n)
			return g
		})
		if fits {
			others = append(others, q)
		}
	}
	if s := c.Otherwise(p, others...); s != "" {
		t.Fatal(s)
	}
}

func TestPlacesTellTheSame(t *testing.T) {
	r := rand.New(rand.NewSource(185))
	var c apart
	for range 3000 {
		c.expectSame(t, likely.Registers(r.Intn, 1+r.Intn(9)))
	}
	if c.Programs < 2000 || c.Ends < 700 || c.Errs < 600 || c.shared < 1200 || c.slots < 15000 {
		t.Error(c)
	}
}
