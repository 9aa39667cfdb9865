package ops

import (
	"ratline/api"
	"ratline/cplx"
	"ratline/val"
)

// unaries are the ops of one value, each at its number.
func unaries() [api.OConj + 1]unary {
	return [...]unary{
		api.ONeg:  negated,
		api.ONot:  not,
		api.OLen:  howMany,
		api.ORe:   realPart,
		api.OIm:   imaginaryPart,
		api.OConj: conjugate,
	}
}

func negated(a api.Value) (api.Value, api.Run) {
	switch a.Kind {
	case api.VInt:
		return val.Int(-a.N), api.ROK
	case api.VCx:
		return val.Cx(cplx.Neg(a.Z)), api.ROK
	}
	return failed(api.RKind)
}

func not(a api.Value) (api.Value, api.Run) {
	return told(!val.Truth(a))
}

func howMany(a api.Value) (api.Value, api.Run) {
	n, ok := length(a)
	if !ok {
		return failed(api.RKind)
	}
	return val.Int(int64(n)), api.ROK
}

// length is how many bytes a text has, how many values a list; false of others.
func length(a api.Value) (int, bool) {
	switch a.Kind {
	case api.VText:
		return len(a.S), true
	case api.VList:
		return len(a.L), true
	}
	return 0, false
}

func realPart(a api.Value) (api.Value, api.Run) {
	z, ok := number(a)
	if !ok {
		return failed(api.RKind)
	}
	return val.Cx(complex(real(z), 0)), api.ROK
}

func imaginaryPart(a api.Value) (api.Value, api.Run) {
	z, ok := number(a)
	if !ok {
		return failed(api.RKind)
	}
	return val.Cx(complex(imag(z), 0)), api.ROK
}

func conjugate(a api.Value) (api.Value, api.Run) {
	switch a.Kind {
	case api.VInt:
		return val.Int(a.N), api.ROK
	case api.VCx:
		return val.Cx(cplx.Conj(a.Z)), api.ROK
	}
	return failed(api.RKind)
}
