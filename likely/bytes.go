package likely

import (
	"math"

	"ratline/api"
)

// Fn takes any bytes as a function, whether it is sound or not: Params, Regs, up to seven blocks, each an end and up to seven Ins, each with up to three registers in its list. Where the bytes end noughts stand.
func Fn(b []byte) api.RFn {
	r := bytesReader{b}
	f := api.RFn{Params: r.number(), Regs: r.number()}
	for range r.number() & 7 {
		f.Blocks = append(f.Blocks, r.block())
	}
	return f
}

type bytesReader struct{ rest []byte }

// number is the next byte; the greatest ones stand for numbers far away.
func (r *bytesReader) number() int {
	if len(r.rest) == 0 {
		return 0
	}
	n := int(r.rest[0])
	r.rest = r.rest[1:]
	far := [...]int{-1, -65, 1 << 40, math.MinInt, math.MaxInt, 256}
	if first := 256 - len(far); n >= first {
		return far[n-first]
	}
	return n
}

func (r *bytesReader) block() api.RBlock {
	b := api.RBlock{Term: api.RTerm{Kind: r.number(), A: r.number(), To: r.number(), Else: r.number()}}
	for range r.number() & 7 {
		b.Ins = append(b.Ins, r.ins())
	}
	return b
}

func (r *bytesReader) ins() api.RIns {
	i := api.RIns{Op: r.number(), D: r.number(), A: r.number(), B: r.number(), N: r.number(), Deep: r.number()}
	i.K = likelyValue(func(n int) int { return int(uint(r.number()) % uint(n)) })
	for range r.number() & 3 {
		i.L = append(i.L, r.number())
	}
	return i
}
