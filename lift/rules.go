package lift

import (
	"ratline/api"
	"ratline/val"
)

type (
	// spot is an instruction where it stands: top is the register right above the stack ahead of it, next the number of the block behind its own.
	spot struct {
		api.SIns
		top, next int
	}

	// rule adds to a block what an instruction is in register code.
	rule func(b *api.RBlock, s spot)
)

// rulesOf is the table from Ops to their rules, in a function of those constants and leaders.
func rulesOf(consts []api.Value, leaders []int) [api.SList + 1]rule {
	return [...]rule{
		api.SConst: adds(func(s spot) api.RIns { return api.RIns{Op: api.RConst, D: s.top, K: val.Copy(consts[s.A])} }),
		api.SLoad:  adds(func(s spot) api.RIns { return api.RIns{Op: api.RMov, D: s.top, A: s.A} }),
		api.SStore: adds(func(s spot) api.RIns { return api.RIns{Op: api.RMov, D: s.A, A: s.top - 1} }),
		api.SPop:   func(*api.RBlock, spot) {},
		api.SBin:   adds(func(s spot) api.RIns { return api.RIns{Op: api.RBin, D: s.top - 2, A: s.top - 2, B: s.top - 1, N: s.A} }),
		api.SUn:    adds(func(s spot) api.RIns { return api.RIns{Op: api.RUn, D: s.top - 1, A: s.top - 1, N: s.A} }),
		api.SJump:  ends(func(s spot) api.RTerm { return api.RTerm{Kind: api.TJump, To: blockAt(leaders, s.A)} }),
		api.SBrz: ends(func(s spot) api.RTerm {
			return api.RTerm{Kind: api.TBr, A: s.top - 1, To: s.next, Else: blockAt(leaders, s.A)}
		}),
		api.SCall: adds(func(s spot) api.RIns {
			return api.RIns{Op: api.RCall, D: s.top - s.B, N: s.A, L: below(s.top, s.B)}
		}),
		api.SRet:  ends(func(s spot) api.RTerm { return api.RTerm{Kind: api.TRet, A: s.top - 1} }),
		api.SOut:  adds(func(s spot) api.RIns { return api.RIns{Op: api.ROut, A: s.top - 1} }),
		api.STick: adds(func(s spot) api.RIns { return api.RIns{Op: api.RTick, N: s.A} }),
		api.SList: adds(func(s spot) api.RIns { return api.RIns{Op: api.RList, D: s.top - s.A, L: below(s.top, s.A)} }),
	}
}

// adds is the rule of an instruction that stays one.
func adds(made func(spot) api.RIns) rule {
	return func(b *api.RBlock, s spot) { b.Ins = append(b.Ins, made(s)) }
}

// ends is the rule of an instruction that ends its block.
func ends(made func(spot) api.RTerm) rule {
	return func(b *api.RBlock, s spot) { b.Term = made(s) }
}

// below are the n registers right below top, the lowest first.
func below(top, n int) []int {
	var l []int
	for k := range n {
		l = append(l, top-n+k)
	}
	return l
}
