package sim_test

import (
	"fmt"
	"math"
	"slices"
	"strings"
	"testing"

	"ratline/api"
	"ratline/sim"
	"ratline/val"
)

// Promise 12.1: Graph, Size and Text, of functions that Check takes and of others.

func TestGraph(t *testing.T) {
	for _, c := range []struct {
		want   string
		blocks []api.RBlock
	}{
		{"[]", nil},
		{"[[]]", []api.RBlock{block(ret(0))}},
		{"[[0]]", []api.RBlock{block(jump(0))}},
		{"[[1] []]", []api.RBlock{block(jump(1)), block(ret(0))}},
		// To ahead of Else, whichever is the lesser; once, if they are one
		{"[[1 2] [2 1] [0]]", []api.RBlock{block(br(0, 1, 2)), block(br(5, 2, 1)), block(br(0, 0, 0))}},
		{"[[0 1] [1]]", []api.RBlock{block(br(0, 0, 1)), block(br(1, 1, 1))}},
		// what an end does not have is not asked
		{"[[1] [] []]", []api.RBlock{block(api.RTerm{Kind: api.TJump, A: 9, To: 1, Else: 2}), block(api.RTerm{Kind: api.TRet, To: 1, Else: 2}), block(api.RTerm{})}},
		// ends that are none
		{"[[] [] [] []]", []api.RBlock{block(api.RTerm{Kind: 0, To: 1, Else: 2}), block(api.RTerm{Kind: 4, To: 1, Else: 2}), block(api.RTerm{Kind: -1, To: 1}), block(api.RTerm{Kind: math.MinInt, To: 1})}},
		// blocks that are none are told as they stand
		{"[[7] [-1 9] [9223372036854775807 -9223372036854775808] [-5]]", []api.RBlock{block(jump(7)), block(br(0, -1, 9)), block(br(0, math.MaxInt, math.MinInt)), block(br(9, -5, -5))}},
	} {
		if got := sim.Graph(fn(0, 6, c.blocks...)); fmt.Sprint(got) != c.want || len(got) != len(c.blocks) {
			t.Errorf("%v: %v, want %s", c.blocks, got, c.want)
		}
	}
	// what stands in a block does not count
	f := fn(0, 6, block(br(0, 1, 0), tick(1), call(0, 0)), block(jump(0), number(0, 1)))
	if got := sim.Graph(f); fmt.Sprint(got) != "[[1 0] [0]]" {
		t.Error(got)
	}
}

func TestGraphOfManyBlocks(t *testing.T) {
	f := fn(0, 1, make([]api.RBlock, 5000)...)
	for n := range f.Blocks {
		f.Blocks[n].Term = br(0, n+1, n-1)
	}
	g := sim.Graph(f)
	if len(g) != 5000 {
		t.Fatal(len(g))
	}
	for n, l := range g {
		if !slices.Equal(l, []int{n + 1, n - 1}) {
			t.Fatal(n, l)
		}
	}
}

func TestSize(t *testing.T) {
	for _, c := range []struct {
		want   int
		blocks []api.RBlock
	}{
		{0, nil},
		{1, []api.RBlock{block(ret(0))}},
		{2, []api.RBlock{block(ret(0), out(0))}},
		{5, []api.RBlock{block(ret(0)), block(ret(0), out(0), tick(1)), block(jump(0))}},
		{2, []api.RBlock{block(ret(0), list(0))}},
		{5, []api.RBlock{block(ret(0), list(0, 1, 1, 1))}},
		{8, []api.RBlock{block(ret(0), tick(1), call(1, 0, 5), list(0, 0, 0)), block(api.RTerm{})}},
		// any list counts, whatever stands in it and wherever it stands
		{4, []api.RBlock{block(ret(0), api.RIns{Op: api.ROut, L: []int{-1, 9999}})}},
		{102, []api.RBlock{block(api.RTerm{Kind: 9}, api.RIns{Op: 77, L: make([]int, 100), K: val.List(values(val.Int(1)))})}},
	} {
		if got := sim.Size(fn(0, 6, c.blocks...)); got != c.want {
			t.Errorf("%v: %d, want %d", c.blocks, got, c.want)
		}
	}
	if got := sim.Size(api.RFn{Name: "long", Params: 8, Regs: 200}); got != 0 {
		t.Error(got)
	}
	great := fn(0, 1, slices.Repeat([]api.RBlock{block(ret(0), api.RIns{Op: api.RList, L: make([]int, 1000)})}, 3000)...)
	if got := sim.Size(great); got != 3000*1002 {
		t.Error(got)
	}
}

func expectText(t *testing.T, want string, l ...api.RBlock) {
	t.Helper()
	if got := sim.Text(fn(0, 6, l...)); got != want {
		t.Errorf("%q, want %q", short(got), short(want))
	}
}

func TestText(t *testing.T) {
	expectText(t, "")
	expectText(t, "block 0\n3 4 0 0\n", block(ret(4)))
	expectText(t, "block 0\n1 0 1 0\nblock 1\n2 5 3 4\nblock 2\n0 0 0 0\n", block(jump(1)), block(br(5, 3, 4)), api.RBlock{})
	for want, i := range map[string]api.RIns{
		"1 3 0 0 0 5": number(3, 5), "2 3 4 0 0": mov(3, 4), "3 3 4 5 12": bin(api.OGet, 3, 4, 5), "4 3 4 0 20": un(api.OConj, 3, 4), "5 3 0 0 2": call(2, 3), "5 3 0 0 2 4 5 4": call(2, 3, 4, 5, 4),
		"6 0 3 0 0": out(3), "7 0 0 0 4095": tick(4095), "8 3 0 0 0": list(3), "8 3 0 0 0 1": list(3, 1), "8 3 0 0 0 1 0 5": list(3, 1, 0, 5),
		// Deep is not told, and a K only of an RConst
		"2 1 0 0 0": {Op: api.RMov, D: 1, Deep: 3, K: val.Int(7)},
		// what an Op does not have is told as it stands
		"1 2 3 4 5 nil 6 7": {Op: api.RConst, D: 2, A: 3, B: 4, N: 5, L: []int{6, 7}}, "6 -1 -2 -3 -4 -5 0": {Op: api.ROut, D: -1, A: -2, B: -3, N: -4, L: []int{-5, 0}},
		"99 1 0 0 0": {Op: 99, D: 1, K: val.Int(1)}, "-9223372036854775808 9223372036854775807 0 0 0": {Op: math.MinInt, D: math.MaxInt},
	} {
		expectText(t, "block 0\n"+want+"\n3 0 0 0\n", block(ret(0), i))
	}
	expectText(t, "block 0\n9 -1 9223372036854775807 -9223372036854775808\n", block(api.RTerm{Kind: 9, A: -1, To: math.MaxInt, Else: math.MinInt}))
}

// K is told by val.Show: a line feed in it ends no line, and what is not Ok is nil.
func TestTextOfConstants(t *testing.T) {
	for _, v := range append(some(), val.Text(strings.Repeat("\n", 999)), val.List(make([]api.Value, 999))) {
		expectText(t, "block 0\n1 0 0 0 0 "+val.Show(v)+"\n3 0 0 0\n", block(ret(0), konst(0, v)))
	}
	expectText(t, "block 0\n1 0 0 0 0 \"ab\\n\\\"\\\\\"\n3 0 0 0\n", block(ret(0), konst(0, val.Text("ab\n\"\\"))))
	expectText(t, "block 0\n1 0 0 0 0 [1, \"a b\", <0000000000000000,3ff0000000000000>, nil]\n3 0 0 0\n", block(ret(0), konst(0, val.List(values(val.Int(1), val.Text("a b"), val.Cx(1i), val.Nil())))))
	for _, v := range notOk() {
		expectText(t, "block 0\n1 0 0 0 0 nil\n3 0 0 0\n", block(ret(0), konst(0, v)))
	}
}

// Name, Params and Regs are not told, and a block has as many lines as it has Ins and two more.
func TestTextOfManyBlocks(t *testing.T) {
	f := fn(3, 7)
	var want strings.Builder
	for n := range 2500 {
		f.Blocks = append(f.Blocks, block(jump(n), slices.Repeat(code(mov(n, 1)), n%4)...))
		want.WriteString(fmt.Sprintf("block %d\n", n) + strings.Repeat(fmt.Sprintf("2 %d 1 0 0\n", n), n%4) + fmt.Sprintf("1 0 %d 0\n", n))
	}
	f.Name = "a name\n"
	if got := sim.Text(f); got != want.String() {
		t.Error(short(got))
	}
}
