package likely

import (
	"math"
	"slices"
	"strconv"
	"strings"

	"ratline/api"
	"ratline/val"
)

// Registers is register code of one to four functions, each of 1 up to most blocks. It has a good form, and is sound more often than not: it may lack an RTick in a circle.
func Registers(choose Choice, most int) api.RProg {
	p := api.RProg{Fns: make([]api.RFn, 1+choose(4))}
	p.Main = choose(len(p.Fns))
	for n := range p.Fns {
		params := choose(4)
		if n == p.Main {
			params = 0
		}
		p.Fns[n] = api.RFn{Name: "f" + strconv.Itoa(n), Params: params, Regs: params + 1 + choose(4)}
	}
	for n := range p.Fns {
		fill(choose, p, &p.Fns[n], most)
	}
	return p
}

// fill lays blocks in f.
func fill(choose Choice, p api.RProg, f *api.RFn, most int) {
	f.Blocks = make([]api.RBlock, 1+choose(most))
	for n := range f.Blocks {
		b := &f.Blocks[n]
		for range choose(5) {
			b.Ins = append(b.Ins, likelyIns(choose, p, *f)...)
		}
		for k := range b.Ins {
			b.Ins[k].Deep = max(0, choose(12)-8)
		}
		b.Term = likelyEnd(choose, *f, n)
	}
}

// likelyIns are one or two Ins that f may have: an RCall stands behind its RTick. Values are of the same kind more often than not, so that runs go on for a while.
func likelyIns(choose Choice, p api.RProg, f api.RFn) []api.RIns {
	reg := func() int { return choose(f.Regs) }
	regs := func(n int) []int {
		var l []int
		for range n {
			l = append(l, reg())
		}
		return l
	}
	tick := api.RIns{Op: api.RTick, N: 1 + among(choose, choose(9), choose(api.MaxTick))}
	switch k := choose(22); {
	case k < 5:
		return []api.RIns{{Op: api.RConst, D: reg(), K: likelyValue(choose)}}
	case k < 8:
		return []api.RIns{{Op: api.RMov, D: reg(), A: reg()}}
	case k < 11:
		op := among(choose, api.OAdd, api.OAdd, api.OAdd, api.OEq, api.ONe, api.OSub, api.OGet, api.OAdd+choose(14))
		return []api.RIns{{Op: api.RBin, N: op, D: reg(), A: reg(), B: reg()}}
	case k < 13:
		op := among(choose, api.ONot, api.ONot, api.ONeg+choose(6))
		return []api.RIns{{Op: api.RUn, N: op, D: reg(), A: reg()}}
	case k < 15:
		to := choose(len(p.Fns))
		return []api.RIns{tick, {Op: api.RCall, N: to, D: reg(), L: regs(p.Fns[to].Params)}}
	case k < 18:
		return []api.RIns{{Op: api.ROut, A: reg()}}
	case k < 20:
		return []api.RIns{tick}
	}
	return []api.RIns{{Op: api.RList, D: reg(), L: regs(choose(5))}}
}

func likelyValue(choose Choice) api.Value {
	long := val.Text(strings.Repeat("x", 300+choose(400)))
	few := val.Int(int64(choose(5)))
	return among(choose, val.Int(1), few, val.Int(2), val.Int(0), val.Nil(), val.Text("ab"), val.List([]api.Value{val.Int(1)}), val.Cx(1i), long)
}

// likelyEnd is an end of the block n of f. It leads back mostly from a block that has an RTick.
func likelyEnd(choose Choice, f api.RFn, n int) api.RTerm {
	last := len(f.Blocks) - 1
	isTicked := slices.ContainsFunc(f.Blocks[n].Ins, func(i api.RIns) bool { return i.Op == api.RTick })
	to := func() int {
		if isTicked && choose(3) == 0 || choose(40) == 0 {
			return choose(len(f.Blocks))
		}
		return min(n+1+choose(3), last)
	}
	switch k := choose(9); {
	case k == 0 || n == last && !isTicked:
		return api.RTerm{Kind: api.TRet, A: choose(f.Regs)}
	case k < 4:
		return api.RTerm{Kind: api.TJump, To: to()}
	}
	return api.RTerm{Kind: api.TBr, A: choose(f.Regs), To: to(), Else: to()}
}

// Blemish changes one thing of p, or two: mostly to what may not be.
func Blemish(choose Choice, p *api.RProg) {
	f := &p.Fns[choose(len(p.Fns))]
	b := &f.Blocks[choose(len(f.Blocks))]
	fields := []*int{&b.Term.Kind, &b.Term.A, &b.Term.To, &b.Term.To, &b.Term.Else, &f.Params, &f.Regs, &p.Main}
	if len(b.Ins) > 0 {
		i := &b.Ins[choose(len(b.Ins))]
		fields = append(fields, &i.Op, &i.D, &i.A, &i.B, &i.N, &i.Deep, &i.K.Kind)
		if choose(9) == 0 {
			i.L = append(slices.Clone(i.L), choose(f.Regs))
		}
		if len(i.L) > 0 {
			fields = append(fields, &i.L[choose(len(i.L))])
		}
		if k := choose(len(b.Ins)); choose(4) == 0 {
			b.Ins = slices.Delete(b.Ins, k, k+1)
		}
	}
	far := []int{-1, 0, 1, 2, 3, 4, 5, 6, 7, 8, 9, 14, 15, 16, 20, 21, 63, 64, 65, 127, 128, 199, 200, 201, 4095, 4096, math.MaxInt, math.MinInt}
	near := []int{f.Regs, f.Regs - 1, len(f.Blocks), len(f.Blocks) - 1, len(p.Fns)}
	*among(choose, fields...) = among(choose, append(far, near...)...)
}
