package stack_test

import (
	"math/rand"
	"testing"

	"ratline/api"
	"ratline/stack"
)

// Promise 7.4: what Check finds good never takes what is not there. A machine of its own goes any way at each SBrz, and takes each thing from where it should be.

// machine runs a program by its form alone: values are noughts, a choice is a throw.
type machine struct {
	t      *testing.T
	r      *rand.Rand
	p      api.Prog
	steps  int
	ticks  int
	calls  int
	thrown int
}

// run runs one function; it ends where the steps do. A panic of a list's place would be the fault looked for.
func (m *machine) run(fn int, args []int) int {
	f := m.p.Fns[fn]
	heights, e := stack.Heights(m.p, fn)
	if e != api.OK || len(args) != f.Params {
		m.t.Fatal(fn, e, len(args))
	}
	locals := append(make([]int, 0, f.Locals), args...)[:f.Locals]
	values := make([]int, 0, api.MaxStack)
	at, sinceTick, justTicked := 0, 0, false
	for m.steps > 0 {
		m.steps--
		i := f.Code[at]
		if len(values) != heights[at] {
			m.t.Fatalf("%d of %s: %d values, not %d", at, short(f), len(values), heights[at])
		}
		if sinceTick++; sinceTick > len(f.Code) {
			m.t.Fatalf("%s: round without an STick", short(f))
		}
		if i.Op == api.SCall && !justTicked {
			m.t.Fatalf("%d of %s: a call without its STick", at, short(f))
		}
		taken := values[len(values)-stack.Pops(i):]
		values = values[:len(values)-len(taken)]
		justTicked = i.Op == api.STick
		at++
		switch i.Op {
		case api.SConst:
			values = append(values, int(f.Consts[i.A].N))
		case api.SLoad:
			values = append(values, locals[i.A])
		case api.SStore:
			locals[i.A] = taken[0]
		case api.SBin, api.SUn, api.SList:
			values = append(values, 0)
		case api.SJump:
			at = i.A
		case api.SBrz:
			if m.throw() {
				at = i.A
			}
		case api.SCall:
			m.calls++
			values = append(values, m.run(i.A, append([]int(nil), taken...)))
		case api.SRet:
			return taken[0]
		case api.STick:
			m.ticks++
			sinceTick = 0
		}
		if len(values) > api.MaxStack {
			m.t.Fatalf("%d of %s: %d values", at, short(f), len(values))
		}
	}
	return 0
}

func (m *machine) throw() bool {
	m.thrown++
	return m.r.Intn(2) == 0
}

func TestGoodProgramsRun(t *testing.T) {
	r := rand.New(rand.NewSource(74))
	good, ticks, calls, thrown := 0, 0, 0, 0
	for range 40000 {
		p := likelyProgram(r, 1+r.Intn(25))
		if r.Intn(4) == 0 {
			blemish(r, &p)
		}
		if stack.Check(p) != api.OK {
			continue
		}
		good++
		for range 3 {
			m := machine{t: t, r: r, p: p, steps: 200}
			m.run(p.Main, nil)
			ticks, calls, thrown = ticks+m.ticks, calls+m.calls, thrown+m.thrown
		}
	}
	if good < 2000 || ticks < 1000 || calls < 1000 || thrown < 1000 {
		t.Error(good, ticks, calls, thrown)
	}
}
