package sim_test

import (
	"fmt"
	"math"
	"slices"
	"strings"
	"testing"

	"ratline/api"
	"ratline/sim"
	"ratline/val"
)

// Promise 12.1, Run: RTick and ROut cost one of the fuel each, and nothing else costs any.

func TestNoFuel(t *testing.T) {
	for _, fuel := range []int{math.MinInt, -100001, -1, 0} {
		expect(t, line(0, number(0, 1), mov(1, 0), bin(api.OAdd, 0, 0, 1), un(api.ONeg, 0, 0), list(0, 0)), fuel, "= [-2] 0")
		expect(t, line(0, number(0, 1), tick(1)), fuel, "= nil 6")
		expect(t, line(0, number(0, 1), out(0)), fuel, "= nil 6")
		// what errs ahead of the first event errs as ever; what errs behind it is not come to
		expect(t, line(0, number(0, 1), un(api.OLen, 0, 0), tick(1)), fuel, "= nil 1")
		expect(t, line(0, number(0, 1), tick(1), un(api.OLen, 0, 0)), fuel, "= nil 6")
	}
}

// The event for which there is no fuel is not told; just as much as is needed is enough.
func TestFuelOfEachEvent(t *testing.T) {
	for fuel, want := range []string{"= nil 6", "t8 = nil 6", "t8 1 = nil 6", "t8 1 1 = nil 6", "t8 1 1 t9 = 1 0", "t8 1 1 t9 = 1 0"} {
		expect(t, line(0, number(0, 1), tick(8), out(0), out(0), tick(9)), fuel, want)
	}
	for fuel, want := range []string{"= nil 6", "7 = nil 6", "7 t1 = nil 6", "7 t1 7 = nil 6", "7 t1 7 t1 = nil 6"} {
		expect(t, mainOf(block(jump(0), number(0, 7), out(0), tick(1))), fuel, want)
	}
	// a call costs what its RTick costs, and comes behind it; what is returned costs nothing
	p := program(fn(0, 1, block(ret(0), number(0, 1), tick(1), call(1, 0, 0))), fn(1, 1, block(ret(0), out(0))))
	for fuel, want := range []string{"= nil 6", "t1 = nil 6", "t1 1 = 1 0", "t1 1 = 1 0"} {
		expect(t, p, fuel, want)
	}
	// an error ahead of an event for which there is none
	for fuel, want := range []string{"= nil 6", "t1 = nil 1", "t1 = nil 1"} {
		expect(t, line(0, tick(1), un(api.OLen, 0, 0), out(0)), fuel, want)
	}
}

// withLessFuel is what a run tells with that fuel, if with enough of it it tells x.
func withLessFuel(x api.Trace, fuel int) api.Trace {
	if fuel = max(fuel, 0); fuel < len(x.Events) {
		return api.Trace{Events: x.Events[:fuel], E: api.RFuel}
	}
	return x
}

// With less fuel a run tells the beginning of what it tells with more.
func TestEveryFuel(t *testing.T) {
	main := fn(0, 2, block(ret(1), number(0, 4), out(0), tick(1), call(1, 1, 0), out(1)))
	errs := fn(1, 2, block(br(0, 1, 0), out(0), tick(3), un(api.OLen, 0, 0)), block(ret(0)))
	for _, p := range []api.RProg{program(main, counts()), program(main, down(1)), program(main, errs)} {
		all, e := sim.Run(p, 1000)
		if e != api.OK || all.E == api.RFuel || len(all.Events) < 4 {
			t.Fatal(tell(all))
		}
		for fuel := -2; fuel < len(all.Events)+3; fuel++ {
			expect(t, p, fuel, tell(withLessFuel(all, fuel)))
		}
	}
}

// Fuel above 100,000 counts as that.
func TestMostFuel(t *testing.T) {
	ticks := mainOf(block(jump(0), tick(1)))
	outs := mainOf(block(jump(0), tick(1), out(0)))
	for fuel, n := range map[int]int{99999: 99999, 100000: 100000, 100001: 100000, 1<<32 + 5: 100000, math.MaxInt: 100000} {
		expect(t, ticks, fuel, strings.Repeat("t1 ", n)+"= nil 6")
		expect(t, outs, fuel, strings.Repeat("t1 nil ", n/2)+strings.Repeat("t1 ", n%2)+"= nil 6")
	}
	round := func(n int64) api.RProg {
		return mainOf(block(jump(1), number(0, n), number(1, 1)), block(br(0, 1, 2), tick(1), bin(api.OSub, 0, 0, 1)), block(ret(0)))
	}
	for _, fuel := range []int{100000, 100001, math.MaxInt} {
		expect(t, round(99999), fuel, strings.Repeat("t1 ", 99999)+"= 0 0")
		expect(t, round(100000), fuel, strings.Repeat("t1 ", 100000)+"= 0 0")
		expect(t, round(100001), fuel, strings.Repeat("t1 ", 100000)+"= nil 6")
	}
	expect(t, round(100000), 99999, strings.Repeat("t1 ", 99999)+"= nil 6")
}

// deep is a program that has so many calls open, with so many registers each, beside main's.
func deep(n int64, regs int) api.RProg {
	last := regs - 1
	return program(fn(0, 1, block(ret(0), number(0, n), tick(2), call(1, 0, 0))),
		fn(1, regs, block(br(0, 1, 2), number(last, 1)), block(ret(last), bin(api.OSub, 1, 0, last), tick(1), call(1, 0, 1), bin(api.OAdd, last, last, 0)), block(ret(0))))
}

// As many calls may be open as there was fuel.
func TestOpenCalls(t *testing.T) {
	for _, n := range []int{0, 1, 2, 63, 64, 65, 999, 1000, 1001, 30000, 99998, 99999} {
		ticks := "t2 " + strings.Repeat("t1 ", n)
		expect(t, deep(int64(n), 3), n+1, ticks+fmt.Sprintf("= %d 0", n))
		expect(t, deep(int64(n), 3), n, strings.TrimSuffix(ticks, ticks[len(ticks)-3:])+"= nil 6")
	}
	expect(t, deep(100000, 3), math.MaxInt, "t2 "+strings.Repeat("t1 ", 99999)+"= nil 6")
	expect(t, program(fn(0, 1, block(ret(0), tick(1), call(0, 0)))), math.MaxInt, strings.Repeat("t1 ", 100000)+"= nil 6")
}

// As many calls as there was fuel, each with as many registers as may be.
func TestOpenCallsOfGreatFunctions(t *testing.T) {
	expect(t, deep(99999, 200), math.MaxInt, "t2 "+strings.Repeat("t1 ", 99999)+"= 99999 0")
}

// Calls that have come back are not open any more.
func TestManyCallsOneBehindTheOther(t *testing.T) {
	p := program(fn(0, 3, block(jump(1), number(0, 50000)), block(br(0, 1, 2), tick(1), tick(2), call(1, 0, 0)), block(ret(0))), fn(1, 2, block(ret(0), number(1, 1), bin(api.OSub, 0, 0, 1))))
	expect(t, p, 100000, strings.Repeat("t1 t2 ", 50000)+"= 0 0")
}

// Promise 12.3, W10: every run ends: the longest way that there is between two RTicks, as often as may be waited for.
func TestLongRun(t *testing.T) {
	loop := row(code(tick(1)), slices.Repeat(code(mov(1, 0)), 13998))
	p := mainOf(block(jump(0), loop...))
	expect(t, p, 2000, strings.Repeat("t1 ", 2000)+"= nil 6")
	// from block to block
	blocks := make([]api.RBlock, 2000)
	for n := range blocks {
		blocks[n] = block(br(0, (n+1)%2000, (n+1)%2000))
	}
	blocks[1999].Ins = code(tick(3))
	expect(t, mainOf(blocks...), 1000, strings.Repeat("t3 ", 1000)+"= nil 6")
	// ways that double again and again between two RTicks: 16 functions that call the next one as often as may be are bounded by the fuel
	var fns []api.RFn
	for n := range 15 {
		fns = append(fns, fn(0, 1, block(ret(0), slices.Repeat(code(tick(n+1), call(n+1, 0)), 4000)...)))
	}
	fns = append(fns, fn(0, 1, block(ret(0), number(0, 1))))
	x, e := sim.Run(program(fns...), math.MaxInt)
	if e != api.OK || x.E != api.RFuel || len(x.Events) != 100000 {
		t.Error(e, x.E, len(x.Events))
	}
	if want := (api.Event{Kind: api.ETick, N: 15}); !slices.EqualFunc(x.Events[14:4014], slices.Repeat([]api.Event{want}, 4000), sameEvent) {
		t.Error(short(x.Events[14:]))
	}
}

func sameEvent(a, b api.Event) bool {
	return a.Kind == b.Kind && a.N == b.N && val.Ok(a.V) && val.Ok(b.V) && val.Same(a.V, b.V)
}
