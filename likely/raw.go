package likely

import (
	"math"
	"slices"
	"strings"

	"ratline/api"
	"ratline/val"
)

// Raw is a function of numbers that are small or far away, whatever they stand for, and of values of which some are not Ok: up to four blocks, each of up to five Ins.
func Raw(choose Choice) api.RFn {
	values := OddValues()
	f := api.RFn{Name: "raw", Params: choose(2) * far(choose), Regs: far(choose), Blocks: make([]api.RBlock, choose(5))}
	for k := range f.Blocks {
		f.Blocks[k].Term = api.RTerm{Kind: choose(5), A: few(choose), To: few(choose), Else: few(choose)}
		for range choose(6) {
			i := api.RIns{
				Op: among(choose, choose(10), api.RMov, far(choose)),
				D:  few(choose), A: few(choose), B: few(choose), N: among(choose, choose(22), far(choose)),
				Deep: choose(2) * far(choose), K: among(choose, values...),
			}
			for range choose(4) {
				i.L = append(i.L, few(choose))
			}
			f.Blocks[k].Ins = append(f.Blocks[k].Ins, i)
		}
	}
	return f
}

func few(choose Choice) int {
	return among(choose, choose(4), choose(4), far(choose))
}

// far is a number that stands at some edge.
func far(choose Choice) int {
	return among(choose, math.MinInt, math.MinInt+1, -1<<40, -65, -64, -2, -1, 0, 0, 0, 1, 1, 2, 3, 63, 64, 127, 128, 199, 200, 255, 256, 1<<32, 1<<40, math.MaxInt-1, math.MaxInt)
}

// itself is a list that holds itself.
func itself() api.Value {
	v := api.Value{Kind: api.VList, L: make([]api.Value, 2)}
	v.L[1] = v
	return v
}

// OddValues are some that are not Ok, one that holds itself among them, and, behind these, some that are.
func OddValues() []api.Value {
	return []api.Value{
		{Kind: 5}, {Kind: -1}, {N: 1}, {Kind: api.VInt, S: "a"}, {Kind: api.VText, S: strings.Repeat("x", 1000)}, {Kind: api.VCx, Z: complex(math.NaN(), 0)},
		{Kind: api.VList, L: make([]api.Value, 1000)}, {Kind: api.VList, L: []api.Value{{Kind: 9}}}, itself(),
		val.Nil(), val.Int(3), val.Cx(2i), val.Text("ab"), val.List([]api.Value{val.List(nil)}),
	}
}

// Stained is one of seeds, with small numbers behind it, and some of its bytes changed.
func Stained(choose Choice, seeds ...[]byte) []byte {
	b := slices.Clone(among(choose, seeds...))
	for range choose(60) {
		b = append(b, byte(choose(9)))
	}
	for range choose(6) {
		if len(b) > 0 {
			b[choose(len(b))] = byte(among(choose, choose(9), choose(256)))
		}
	}
	return b
}
