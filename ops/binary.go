package ops

import (
	"cmp"
	"slices"
	"strings"

	"ratline/api"
	"ratline/cplx"
	"ratline/val"
)

// binaries are the ops of two values, each at its number.
func binaries() [api.OCx + 1]binary {
	return [...]binary{
		api.OAdd:  add,
		api.OSub:  sub,
		api.OMul:  mul,
		api.ODiv:  div,
		api.OMod:  mod,
		api.OEq:   same,
		api.ONe:   other,
		api.OLt:   below,
		api.OLe:   notAbove,
		api.OGt:   above,
		api.OGe:   notBelow,
		api.OGet:  get,
		api.OPush: push,
		api.OCx:   twoParts,
	}
}

func add(a, b api.Value) (api.Value, api.Run) {
	switch {
	case both(api.VInt, a, b):
		return val.Int(a.N + b.N), api.ROK
	case both(api.VText, a, b):
		return done(val.Text(a.S + b.S))
	case both(api.VList, a, b):
		return done(val.List(slices.Concat(a.L, b.L)))
	}
	return withParts(cplx.Add, a, b)
}

func sub(a, b api.Value) (api.Value, api.Run) {
	if both(api.VInt, a, b) {
		return val.Int(a.N - b.N), api.ROK
	}
	return withParts(cplx.Sub, a, b)
}

func mul(a, b api.Value) (api.Value, api.Run) {
	if both(api.VInt, a, b) {
		return val.Int(a.N * b.N), api.ROK
	}
	return withParts(cplx.Mul, a, b)
}

func div(a, b api.Value) (api.Value, api.Run) {
	if !both(api.VInt, a, b) {
		return withParts(cplx.Div, a, b)
	}
	if b.N == 0 {
		return failed(api.RZero)
	}
	return val.Int(a.N / b.N), api.ROK
}

func mod(a, b api.Value) (api.Value, api.Run) {
	if !both(api.VInt, a, b) {
		return failed(api.RKind)
	}
	if b.N == 0 {
		return failed(api.RZero)
	}
	return val.Int(a.N % b.N), api.ROK
}

// withParts does what cplx does, if a and b are numbers.
func withParts(do func(x, y complex128) (complex128, api.Run), a, b api.Value) (api.Value, api.Run) {
	x, okA := number(a)
	y, okB := number(b)
	if !okA || !okB {
		return failed(api.RKind)
	}
	z, e := do(x, y)
	if e != api.ROK {
		return failed(e)
	}
	return val.Cx(z), api.ROK
}

func same(a, b api.Value) (api.Value, api.Run) {
	return told(val.Same(a, b))
}

func other(a, b api.Value) (api.Value, api.Run) {
	return told(!val.Same(a, b))
}

func below(a, b api.Value) (api.Value, api.Run) {
	return ordered(a, b, func(order int) bool { return order < 0 })
}

func notAbove(a, b api.Value) (api.Value, api.Run) {
	return ordered(a, b, func(order int) bool { return order <= 0 })
}

func above(a, b api.Value) (api.Value, api.Run) {
	return ordered(a, b, func(order int) bool { return order > 0 })
}

func notBelow(a, b api.Value) (api.Value, api.Run) {
	return ordered(a, b, func(order int) bool { return order >= 0 })
}

// ordered asks holds for the order of a and b: below 0, 0 or above, as a is below b, the same or above.
func ordered(a, b api.Value, holds func(order int) bool) (api.Value, api.Run) {
	switch {
	case both(api.VInt, a, b):
		return told(holds(cmp.Compare(a.N, b.N)))
	case both(api.VText, a, b):
		return told(holds(strings.Compare(a.S, b.S)))
	}
	return failed(api.RKind)
}

func get(a, b api.Value) (api.Value, api.Run) {
	n, ok := length(a)
	if !ok || b.Kind != api.VInt {
		return failed(api.RKind)
	}
	if b.N < 0 || b.N >= int64(n) {
		return failed(api.RIndex)
	}
	if a.Kind == api.VText {
		return val.Text(a.S[b.N : b.N+1]), api.ROK
	}
	return val.Copy(a.L[b.N]), api.ROK
}

func push(a, b api.Value) (api.Value, api.Run) {
	if a.Kind != api.VList {
		return failed(api.RKind)
	}
	return done(val.List(slices.Concat(a.L, []api.Value{b})))
}

func twoParts(a, b api.Value) (api.Value, api.Run) {
	if !both(api.VInt, a, b) {
		return failed(api.RKind)
	}
	return val.Cx(cplx.Of(a.N, b.N)), api.ROK
}
