// Package hand is register code written by hand, in short words. No layer leans on it: it is what tests of several layers write their functions in, and by which they hold two of them, or what is told of them, against each other.
package hand

import "ratline/api"

// Const writes v into d.
func Const(d int, v api.Value) api.RIns { return api.RIns{Op: api.RConst, D: d, K: v} }

// Mov writes a into d.
func Mov(d, a int) api.RIns { return api.RIns{Op: api.RMov, D: d, A: a} }

// Bin writes op of a and b into d.
func Bin(op, d, a, b int) api.RIns { return api.RIns{Op: api.RBin, N: op, D: d, A: a, B: b} }

// Un writes op of a into d.
func Un(op, d, a int) api.RIns { return api.RIns{Op: api.RUn, N: op, D: d, A: a} }

// Call writes what fn returns of l into d.
func Call(fn, d int, l ...int) api.RIns { return api.RIns{Op: api.RCall, N: fn, D: d, L: l} }

// Out puts a out.
func Out(a int) api.RIns { return api.RIns{Op: api.ROut, A: a} }

// Tick ticks n.
func Tick(n int) api.RIns { return api.RIns{Op: api.RTick, N: n} }

// List writes a list of l into d.
func List(d int, l ...int) api.RIns { return api.RIns{Op: api.RList, D: d, L: l} }

// Jump leads to a block.
func Jump(to int) api.RTerm { return api.RTerm{Kind: api.TJump, To: to} }

// Br leads to one of two blocks, as a says.
func Br(a, to, other int) api.RTerm { return api.RTerm{Kind: api.TBr, A: a, To: to, Else: other} }

// Ret returns a.
func Ret(a int) api.RTerm { return api.RTerm{Kind: api.TRet, A: a} }

// Code is a list of Ins.
func Code(l ...api.RIns) []api.RIns { return l }

// Block has l and ends with t.
func Block(t api.RTerm, l ...api.RIns) api.RBlock { return api.RBlock{Ins: l, Term: t} }

// Fn is a function of blocks.
func Fn(params, regs int, l ...api.RBlock) api.RFn {
	return api.RFn{Name: "f", Params: params, Regs: regs, Blocks: l}
}

// Deep is i with another Deep.
func Deep(n int, i api.RIns) api.RIns {
	i.Deep = n
	return i
}
