package stack

import (
	"ratline/api"
	"ratline/ops"
	"ratline/val"
)

// isPlace tells whether a list of n has something at that place.
func isPlace(at, n int) bool {
	return at >= 0 && at < n
}

// hasForm tells whether there is such a function, and all that is written in it may be, whether it is come to or not.
func hasForm(p api.Prog, fn int) bool {
	if !isPlace(fn, len(p.Fns)) {
		return false
	}
	f := p.Fns[fn]
	if f.Params < 0 || f.Params > api.MaxParams || f.Locals < f.Params || f.Locals > api.MaxLocals {
		return false
	}
	if len(f.Code) == 0 || len(f.Code) > api.MaxCode {
		return false
	}
	return constsAreOk(f.Consts) && operandsAreOk(p, f)
}

func constsAreOk(l []api.Value) bool {
	for _, v := range l {
		if !val.Ok(v) {
			return false
		}
	}
	return true
}

func operandsAreOk(p api.Prog, f api.SFn) bool {
	for _, i := range f.Code {
		if !mayStand(p, f, i) {
			return false
		}
	}
	return true
}

// mayStand tells whether i is an instruction that f may have.
func mayStand(p api.Prog, f api.SFn, i api.SIns) bool {
	if i.Op == api.SCall {
		return isPlace(i.A, len(p.Fns)) && i.B == p.Fns[i.A].Params
	}
	return i.B == 0 && mayTake(f, i)
}

// mayTake tells whether i has an Op that it may have, and an A that goes with it.
func mayTake(f api.SFn, i api.SIns) bool {
	switch i.Op {
	case api.SConst:
		return isPlace(i.A, len(f.Consts))
	case api.SLoad, api.SStore:
		return isPlace(i.A, f.Locals)
	case api.SJump, api.SBrz:
		return isPlace(i.A, len(f.Code))
	case api.SBin:
		return ops.Arity(i.A) == 2
	case api.SUn:
		return ops.Arity(i.A) == 1
	case api.STick:
		return i.A >= 1 && i.A <= api.MaxTick
	case api.SList:
		return i.A >= 0 && i.A <= api.MaxItems
	case api.SPop, api.SRet, api.SOut:
		return i.A == 0
	}
	return false
}
