package likely_test

import (
	"bytes"
	"math"
	"math/rand"
	"reflect"
	"slices"
	"testing"

	"ratline/api"
	"ratline/gen"
	"ratline/likely"
	"ratline/sim"
	"ratline/svm"
	"ratline/val"
)

func choose(seed int) likely.Choice { return rand.New(rand.NewSource(int64(seed))).Intn }

// A text that is not too long or too great is a program, and runs of such texts end in all ways.
func TestSource(t *testing.T) {
	good, ends := 0, map[api.Run]int{}
	for seed := range 600 {
		s := likely.Source(choose(seed))
		p, at, e := gen.Source(s)
		if e == api.ErrLong || e == api.ErrBig {
			continue
		}
		if e != api.OK {
			t.Fatal(s, at, e)
		}
		good++
		x, _ := svm.Run(p, 60)
		ends[x.E]++
	}
	if good < 400 || ends[api.ROK] < 50 || ends[api.RKind] < 50 || ends[api.RFuel] < 50 || ends[api.RIndex] == 0 || ends[api.RZero] == 0 {
		t.Error(good, ends)
	}
}

// Register code has a good form, and mostly RTicks enough.
func TestRegisters(t *testing.T) {
	checked, ends, blocks := map[api.Errno]int{}, map[api.Run]int{}, map[int]int{}
	for seed := range 3000 {
		p := likely.Registers(choose(seed), 6)
		e := sim.Check(p)
		checked[e]++
		for _, f := range p.Fns {
			blocks[len(f.Blocks)]++
		}
		if e == api.OK {
			x, _ := sim.Run(p, 60)
			ends[x.E]++
		}
	}
	if checked[api.OK] < 2000 || checked[api.ErrTick] < 100 || checked[api.OK]+checked[api.ErrTick] != 3000 || len(blocks) != 6 || blocks[1] == 0 || blocks[6] == 0 {
		t.Error(checked, blocks)
	}
	if ends[api.ROK] < 300 || ends[api.RKind] < 300 || ends[api.RFuel] < 100 || ends[api.RBig] == 0 {
		t.Error(ends)
	}
}

func TestBlemish(t *testing.T) {
	checked, same := map[api.Errno]int{}, 0
	for seed := range 3000 {
		p, q := likely.Registers(choose(seed), 6), likely.Registers(choose(seed), 6)
		likely.Blemish(choose(seed), &q)
		checked[sim.Check(q)]++
		if reflect.DeepEqual(p, q) {
			same++
		}
	}
	if checked[api.OK] < 200 || checked[api.ErrTick] < 50 || checked[api.ErrForm] < 1500 || same > 600 {
		t.Error(checked, same)
	}
}

// The same choices make the same.
func TestSameChoices(t *testing.T) {
	for seed := range 100 {
		if likely.Source(choose(seed)) != likely.Source(choose(seed)) || !reflect.DeepEqual(likely.Registers(choose(seed), 9), likely.Registers(choose(seed), 9)) || sim.Text(likely.Raw(choose(seed))) != sim.Text(likely.Raw(choose(seed))) {
			t.Error(seed)
		}
	}
}

// Bytes are read in order, and those that are missing are noughts.
func TestFn(t *testing.T) {
	if f := likely.Fn(nil); !reflect.DeepEqual(f, api.RFn{}) {
		t.Error(f)
	}
	f := likely.Fn([]byte{1, 3, 2, 2, 5, 250, 254, 9, 8, 1, 2, 3, 4, 5, 0, 0, 0, 6, 7, 8, 3, 2})
	want := api.RFn{Params: 1, Regs: 3, Blocks: []api.RBlock{
		{Ins: []api.RIns{{Op: 8, D: 1, A: 2, B: 3, N: 4, Deep: 5, K: val.Int(1), L: []int{7, 8}}}, Term: api.RTerm{Kind: 2, A: 5, To: -1, Else: math.MaxInt}},
		{Term: api.RTerm{Kind: 3, A: 2}},
	}}
	if !reflect.DeepEqual(f, want) {
		t.Error(f, want)
	}
}

// Raw functions are hardly ever sound: numbers are small, or far away in both directions, and some values are not Ok.
func TestRaw(t *testing.T) {
	sound, odd, least, most, ops := 0, 0, 0, 0, map[int]int{}
	for seed := range 3000 {
		f := likely.Raw(choose(seed))
		f.Params = 0
		if sim.Check(api.RProg{Fns: []api.RFn{f}}) == api.OK {
			sound++
		}
		for _, b := range f.Blocks {
			least, most = min(least, b.Term.To), max(most, b.Term.To)
			for _, i := range b.Ins {
				ops[i.Op]++
				if !val.Ok(i.K) {
					odd++
				}
			}
		}
	}
	if sound > 600 || odd < 5000 || least != math.MinInt || most != math.MaxInt || ops[api.RList] < 500 || ops[0] < 500 || ops[-65] < 50 {
		t.Error(sound, odd, least, most, ops)
	}
}

func TestOddValues(t *testing.T) {
	isOk := []bool{}
	for _, v := range likely.OddValues() {
		if ok := val.Ok(v); len(isOk) == 0 || isOk[len(isOk)-1] != ok {
			isOk = append(isOk, ok)
		}
	}
	if !slices.Equal(isOk, []bool{false, true}) {
		t.Error(isOk)
	}
}

// The seeds stay as they are, and are mostly to be seen again.
func TestStained(t *testing.T) {
	seeds, begins, longer := [][]byte{{}, {1, 2, 3, 200}}, 0, 0
	for seed := range 1000 {
		b := likely.Stained(choose(seed), seeds...)
		if bytes.HasPrefix(b, seeds[1]) {
			begins++
		}
		if len(b) > 40 {
			longer++
		}
	}
	if begins < 100 || begins > 500 || longer < 100 || longer > 500 || !reflect.DeepEqual(seeds, [][]byte{{}, {1, 2, 3, 200}}) {
		t.Error(begins, longer, seeds)
	}
}
