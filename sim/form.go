package sim

import (
	"ratline/api"
	"ratline/ops"
	"ratline/val"
)

// mostSize is the greatest Size of a function.
const mostSize = 14000

// parts tell, at each Op, which fields it has beside Op and Deep, which all have; what N and L may be is told by mayHaveNumber and mayHaveList.
var parts = [...]struct{ d, a, b, k bool }{
	api.RConst: {d: true, k: true},
	api.RMov:   {d: true, a: true},
	api.RBin:   {d: true, a: true, b: true},
	api.RUn:    {d: true, a: true},
	api.RCall:  {d: true},
	api.ROut:   {a: true},
	api.RTick:  {},
	api.RList:  {d: true},
}

// isPlace tells whether a list of n has something at that place.
func isPlace(at, n int) bool {
	return isWithin(at, 0, n-1)
}

func isWithin(n, least, most int) bool {
	return n >= least && n <= most
}

// hasForm tells whether all that is written in f may be, whether it is come to or not. What is long is refused ahead of a look at all of it.
func hasForm(fns []api.RFn, f api.RFn) bool {
	if !isWithin(f.Params, 0, api.MaxParams) || !isWithin(f.Regs, max(f.Params, 1), api.MaxVirtual) {
		return false
	}
	if !isWithin(len(f.Blocks), 1, api.MaxBlocks) || Size(f) > mostSize {
		return false
	}
	for _, b := range f.Blocks {
		for at := range b.Ins {
			if !mayStand(fns, f, &b.Ins[at]) {
				return false
			}
		}
		if !mayEnd(f, b.Term) {
			return false
		}
	}
	return true
}

// mayStand tells whether i is an Ins that f may have.
func mayStand(fns []api.RFn, f api.RFn, i *api.RIns) bool {
	if !isWithin(i.Op, api.RConst, api.RList) || i.Deep < 0 {
		return false
	}
	has := parts[i.Op]
	return mayName(f, has.d, i.D) && mayName(f, has.a, i.A) && mayName(f, has.b, i.B) &&
		val.Ok(i.K) && (has.k || i.K.Kind == api.VNil) &&
		mayHaveNumber(fns, i) && mayHaveList(fns, f, i)
}

// mayName tells whether a field may hold r: a register's number, if it is one that names a register.
func mayName(f api.RFn, names bool, r int) bool {
	if names {
		return isPlace(r, f.Regs)
	}
	return r == 0
}

// mayHaveNumber tells whether i's N goes with its Op.
func mayHaveNumber(fns []api.RFn, i *api.RIns) bool {
	switch i.Op {
	case api.RBin:
		return ops.Arity(i.N) == 2
	case api.RUn:
		return ops.Arity(i.N) == 1
	case api.RCall:
		return isPlace(i.N, len(fns))
	case api.RTick:
		return isWithin(i.N, 1, api.MaxTick)
	}
	return i.N == 0
}

// mayHaveList tells whether i's L goes with its Op and its N, which has to be one that may be.
func mayHaveList(fns []api.RFn, f api.RFn, i *api.RIns) bool {
	least, most := 0, 0
	switch i.Op {
	case api.RCall:
		least, most = fns[i.N].Params, fns[i.N].Params
	case api.RList:
		most = api.MaxItems
	}
	if !isWithin(len(i.L), least, most) {
		return false
	}
	for _, r := range i.L {
		if !isPlace(r, f.Regs) {
			return false
		}
	}
	return true
}

// mayEnd tells whether t is an end that a block of f may have.
func mayEnd(f api.RFn, t api.RTerm) bool {
	switch t.Kind {
	case api.TJump:
		return t.A == 0 && isPlace(t.To, len(f.Blocks)) && t.Else == 0
	case api.TBr:
		return isPlace(t.A, f.Regs) && isPlace(t.To, len(f.Blocks)) && isPlace(t.Else, len(f.Blocks))
	case api.TRet:
		return isPlace(t.A, f.Regs) && t.To == 0 && t.Else == 0
	}
	return false
}
