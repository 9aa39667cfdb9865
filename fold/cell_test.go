package fold_test

import (
	"fmt"
	"math"
	"reflect"
	"slices"
	"strconv"
	"strings"
	"testing"

	"ratline/api"
	"ratline/fold"
	"ratline/hand"
	"ratline/ops"
	"ratline/val"
)

var (
	konst, mov, bin, un, call, list = hand.Const, hand.Mov, hand.Bin, hand.Un, hand.Call, hand.List
	out, tick, jump, br, ret        = hand.Out, hand.Tick, hand.Jump, hand.Br, hand.Ret
	code, block, fn, deep, plain    = hand.Code, hand.Block, hand.Fn, hand.Deep, hand.Plain
)

func number(d int, n int64) api.RIns { return konst(d, val.Int(n)) }

// short is what is told of a thing that may be great.
func short(x any) string {
	s := fmt.Sprint(x)
	if len(s) > 900 {
		s = s[:900] + " .."
	}
	return s
}

func nothing() fold.Cell               { return fold.Cell{Kind: api.KTop} }
func anything() fold.Cell              { return fold.Cell{Kind: api.KAny} }
func always(v api.Value) fold.Cell     { return fold.Cell{Kind: api.KConst, V: v} }
func cells(l ...fold.Cell) []fold.Cell { return l }

// toldCell is a Cell in a word.
func toldCell(c fold.Cell) string {
	switch c.Kind {
	case api.KTop:
		return "."
	case api.KConst:
		return val.Show(c.V)
	case api.KAny:
		return "?"
	}
	return "kind" + strconv.Itoa(c.Kind)
}

func told(l []fold.Cell) string {
	var words []string
	for _, c := range l {
		words = append(words, toldCell(c))
	}
	return strings.Join(words, " ")
}

// longest is a list whose Size is 1,000, and deepest one that has 24 lists within one another.
func longest() api.Value { return val.List(slices.Repeat([]api.Value{val.Nil()}, 999)) }

func deepest() api.Value {
	v := val.List(nil)
	for range 23 {
		v = val.List([]api.Value{v})
	}
	return v
}

// itself is a list that holds itself.
func itself() api.Value {
	v := api.Value{Kind: api.VList, L: make([]api.Value, 2)}
	v.L[1] = v
	return v
}

// distinct are values of which no two are the Same.
func distinct() []api.Value {
	pair := []api.Value{val.Int(1), val.Text("a")}
	return []api.Value{
		val.Nil(), val.Int(0), val.Int(1), val.Int(-1), val.Int(math.MinInt64), val.Int(math.MaxInt64),
		val.Cx(0), val.Cx(1), val.Cx(1i), val.Cx(complex(1, math.SmallestNonzeroFloat64)), val.Cx(complex(math.Nextafter(1, 2), 0)),
		val.Text(""), val.Text("a"), val.Text("nil"), val.Text("\x00"), val.Text(strings.Repeat("x", 999)), val.Text(strings.Repeat("x", 998) + "y"),
		val.List(nil), val.List(pair), val.List(pair[:1]), val.List([]api.Value{pair[1], pair[0]}), val.List([]api.Value{val.List(pair)}),
		val.List([]api.Value{val.Nil()}), val.List([]api.Value{val.Int(0)}), val.List([]api.Value{val.Cx(0)}), longest(), deepest(),
	}
}

// Promise 14.1: Meet.

func expectMeet(t *testing.T, a, b, want fold.Cell) {
	t.Helper()
	for _, got := range []fold.Cell{fold.Meet(a, b), fold.Meet(b, a)} {
		if !reflect.DeepEqual(got, want) {
			t.Errorf("Meet of %s and %s: %s, want %s", short(toldCell(a)), short(toldCell(b)), short(got), short(want))
		}
	}
}

// Each two kinds, and each two values.
func TestMeet(t *testing.T) {
	expectMeet(t, nothing(), nothing(), nothing())
	expectMeet(t, nothing(), anything(), anything())
	expectMeet(t, anything(), anything(), anything())
	l := distinct()
	for n, v := range l {
		expectMeet(t, nothing(), always(v), always(v))
		expectMeet(t, anything(), always(v), anything())
		for k, w := range l {
			if k == n {
				expectMeet(t, always(v), always(val.Copy(w)), always(v))
			} else {
				expectMeet(t, always(v), always(w), anything())
			}
		}
	}
}

// Values that differ in bits alone are the Same: an int has no part that may be minus nought. Of two numbers of two parts such bits tell that one is none, and so nil.
func TestMeetOfBits(t *testing.T) {
	minus := complex(math.Copysign(0, -1), math.Copysign(0, -1))
	odd := api.Value{Kind: api.VInt, N: 5, Z: minus}
	expectMeet(t, always(odd), always(val.Int(5)), always(val.Int(5)))
	expectMeet(t, always(odd), always(odd), always(val.Int(5)))
	expectMeet(t, always(odd), nothing(), always(val.Int(5)))
	expectMeet(t, always(odd), always(val.Int(6)), anything())
	within := api.Value{Kind: api.VList, L: []api.Value{odd}}
	expectMeet(t, always(within), always(val.List([]api.Value{val.Int(5)})), always(val.List([]api.Value{val.Int(5)})))
	for _, z := range []complex128{minus, complex(1, math.Copysign(0, -1)), complex(math.NaN(), 0), complex(0, math.Inf(1))} {
		unsound := always(api.Value{Kind: api.VCx, Z: z})
		expectMeet(t, unsound, always(val.Cx(0)), anything())
		expectMeet(t, unsound, unsound, always(val.Nil()))
		expectMeet(t, unsound, always(val.Nil()), always(val.Nil()))
	}
}

// What is not Ok is nil.
func TestMeetOfWhatIsNotOk(t *testing.T) {
	for _, v := range notOk() {
		expectMeet(t, always(v), always(val.Nil()), always(val.Nil()))
		expectMeet(t, always(v), always(v), always(val.Nil()))
		expectMeet(t, always(v), nothing(), always(val.Nil()))
		expectMeet(t, always(v), anything(), anything())
		expectMeet(t, always(v), always(val.Int(0)), anything())
	}
}

func notOk() []api.Value {
	return []api.Value{
		{Kind: 5}, {Kind: -1}, {N: 1}, {Kind: api.VInt, S: "a"}, {Kind: api.VText, S: strings.Repeat("x", 1000)},
		{Kind: api.VList, L: make([]api.Value, 1000)}, {Kind: api.VList, L: []api.Value{deepest()}}, {Kind: api.VList, L: []api.Value{{Kind: 9}}}, itself(),
	}
}

// A Kind that is none is no KTop and no KConst: of it and a KTop it is told as it is, of it and any other KAny.
func TestMeetOfOtherKinds(t *testing.T) {
	for _, kind := range []int{-1, 3, 4, 99, math.MinInt, math.MaxInt} {
		c := fold.Cell{Kind: kind, V: val.Int(3)}
		expectMeet(t, c, nothing(), c)
		for _, other := range cells(c, anything(), always(val.Int(3)), fold.Cell{Kind: kind + 7}) {
			expectMeet(t, c, other, anything())
		}
	}
}

// Meet does not hang on the order of what meets, nor on how often it does.
func TestMeetInAnyOrder(t *testing.T) {
	l := cells(nothing(), anything())
	for _, v := range distinct() {
		l = append(l, always(v))
	}
	for _, a := range l {
		for _, b := range l {
			ab := fold.Meet(a, b)
			if !reflect.DeepEqual(fold.Meet(a, ab), ab) || !reflect.DeepEqual(fold.Meet(ab, b), ab) {
				t.Fatal(short(a), short(b))
			}
			for _, c := range l[:12] {
				if !reflect.DeepEqual(fold.Meet(ab, c), fold.Meet(a, fold.Meet(b, c))) {
					t.Fatal(short(a), short(b), short(c))
				}
			}
		}
	}
}

// Promise 14.1: Step.

func expectStep(t *testing.T, i api.RIns, c []fold.Cell, want string) {
	t.Helper()
	before := told(c)
	if got := told(fold.Step(i, c)); got != want {
		t.Errorf("Step of %s, %s: %s, want %s", short(i), short(before), short(got), short(want))
	}
	if told(c) != before {
		t.Errorf("Step of %s has changed its cells", short(i))
	}
}

func TestEachOp(t *testing.T) {
	c := cells(always(val.Int(2)), always(val.Text("ab")), nothing(), anything(), always(val.Nil()))
	for _, x := range []struct {
		i    api.RIns
		want string
	}{
		{number(0, 7), `7 "ab" . ? nil`}, {konst(2, val.Text("x")), `2 "ab" "x" ? nil`}, {konst(3, val.List(nil)), `2 "ab" . [] nil`}, {konst(4, val.Nil()), `2 "ab" . ? nil`},
		{mov(4, 0), `2 "ab" . ? 2`}, {mov(0, 1), `"ab" "ab" . ? nil`}, {mov(0, 2), `. "ab" . ? nil`}, {mov(0, 3), `? "ab" . ? nil`}, {mov(3, 4), `2 "ab" . nil nil`}, {mov(0, 0), `2 "ab" . ? nil`},
		{bin(api.OAdd, 4, 0, 0), `2 "ab" . ? 4`}, {bin(api.OAdd, 0, 1, 1), `"abab" "ab" . ? nil`}, {bin(api.OEq, 2, 0, 1), `2 "ab" 0 ? nil`}, {bin(api.OEq, 3, 4, 4), `2 "ab" . 1 nil`},
		{bin(api.OSub, 0, 0, 0), `0 "ab" . ? nil`}, {bin(api.OGet, 2, 1, 0), `2 "ab" ? ? nil`}, {bin(api.OAdd, 1, 0, 1), `2 ? . ? nil`}, {bin(api.OLt, 1, 0, 4), `2 ? . ? nil`},
		{un(api.ONeg, 4, 0), `2 "ab" . ? -2`}, {un(api.OLen, 1, 1), `2 2 . ? nil`}, {un(api.ONot, 2, 4), `2 "ab" 1 ? nil`}, {un(api.ONeg, 0, 1), `? "ab" . ? nil`}, {un(api.ONot, 0, 2), `. "ab" . ? nil`}, {un(api.ONot, 0, 3), `? "ab" . ? nil`},
		{call(0, 0), `? "ab" . ? nil`}, {call(0, 2, 0, 1), `2 "ab" ? ? nil`}, {call(0, 4, 2), `2 "ab" . ? ?`}, {call(99, 1, 3), `2 ? . ? nil`},
		{out(0), `2 "ab" . ? nil`}, {out(3), `2 "ab" . ? nil`}, {tick(1), `2 "ab" . ? nil`},
		{list(3), `2 "ab" . [] nil`}, {list(3, 0, 1, 0), `2 "ab" . [2, "ab", 2] nil`}, {list(0, 0), `[2] "ab" . ? nil`}, {list(0, 4, 4), `[nil, nil] "ab" . ? nil`}, {list(0, 0, 2), `. "ab" . ? nil`}, {list(0, 0, 3), `? "ab" . ? nil`},
	} {
		expectStep(t, x.i, c, x.want)
	}
	expectStep(t, tick(1), nil, "")
	expectStep(t, number(0, 1), nil, "")
}

// Of registers of which one is anything and one is nothing yet, what is made is anything, in whatever order they stand, and whatever the others are.
func TestAnythingBesideNothing(t *testing.T) {
	c := cells(nothing(), anything(), always(val.Int(1)), nothing())
	for _, x := range []struct {
		i    api.RIns
		want string
	}{
		{bin(api.OAdd, 3, 0, 1), "?"}, {bin(api.OAdd, 3, 1, 0), "?"}, {bin(api.OAdd, 3, 0, 0), "."}, {bin(api.OAdd, 3, 1, 1), "?"},
		{bin(api.OAdd, 3, 0, 2), "."}, {bin(api.OAdd, 3, 2, 0), "."}, {bin(api.OAdd, 3, 1, 2), "?"}, {bin(api.OAdd, 3, 2, 1), "?"}, {bin(api.OAdd, 3, 2, 2), "2"},
		// also where the op is none, or would err whatever the other one is
		{bin(99, 3, 0, 2), "."}, {bin(99, 3, 2, 1), "?"}, {bin(99, 3, 2, 2), "?"}, {un(99, 3, 0), "."}, {un(99, 3, 2), "?"}, {un(api.OLen, 3, 0), "."},
		{list(3, 0, 1), "?"}, {list(3, 1, 0), "?"}, {list(3, 2, 0, 1), "?"}, {list(3, 2, 1, 0), "?"}, {list(3, 0, 2, 0), "."}, {list(3, 2, 1, 2), "?"}, {list(3, 2, 2, 0), "."},
		{list(3, 0, 99), "?"}, {list(3, -1, 0), "?"}, {bin(api.OAdd, 3, 0, 99), "?"}, {bin(api.OAdd, 3, -1, 0), "?"},
	} {
		expectStep(t, x.i, c, ". ? 1 "+x.want)
		x.i.D = 0
		expectStep(t, x.i, c, x.want+" ? 1 .")
	}
}

// Each op on each two of the values: what ops tell, or anything.
func TestEachOpOnValues(t *testing.T) {
	known, erred := 0, 0
	expect := func(i api.RIns, c []fold.Cell, v api.Value, e api.Run) {
		want := always(v)
		known++
		if e != api.ROK {
			want = anything()
			erred++
		}
		got := fold.Step(i, c)
		if !reflect.DeepEqual(got[2], want) || !reflect.DeepEqual(got[:2], c[:2]) {
			t.Fatal(i, short(c), short(got), e)
		}
	}
	for _, a := range distinct() {
		for _, b := range distinct() {
			c := cells(always(a), always(b), nothing())
			for op := -1; op <= 22; op++ {
				v, e := ops.Binary(op, a, b)
				expect(bin(op, 2, 0, 1), c, v, e)
				v, e = ops.Unary(op, b)
				expect(un(op, 2, 1), c, v, e)
			}
		}
	}
	if known < 30000 || erred < 10000 || known-erred < 3000 {
		t.Error(known, erred)
	}
}

// A list is told while it is Ok: not if its Size is above 1,000, nor with more than 24 within one another.
func TestListsAtTheEdge(t *testing.T) {
	c := cells(always(val.Text(strings.Repeat("x", 498))), always(longest()), always(deepest()), nothing())
	expect := func(i api.RIns, want bool) {
		t.Helper()
		if got := fold.Step(i, c)[3]; (got.Kind == api.KConst) != want || (got.Kind == api.KAny) == want || want && !val.Ok(got.V) {
			t.Error(short(i), short(got))
		}
	}
	expect(list(3, 0, 0), true) // 1, and twice 499
	c[0].V = val.Text(strings.Repeat("x", 499))
	expect(list(3, 0, 0), false)
	expect(list(3, 1), false)
	expect(list(3, 2), false)
	c[0].V, c[2].V = val.Nil(), deepest().L[0]
	expect(list(3, 2), true)
	expect(list(3, make([]int, 64)...), true)
	expect(list(3, make([]int, 999)...), true)
	expect(list(3, make([]int, 1000)...), false)
	expect(list(3, make([]int, 1001)...), false)
	expect(list(3, make([]int, 1<<22)...), false)
	expect(bin(api.OPush, 3, 1, 0), false)
	expect(bin(api.OAdd, 3, 1, 1), false)
}

// A register that is none is anything, and is not written.
func TestRegistersThatAreNone(t *testing.T) {
	c := cells(always(val.Int(1)), always(val.Int(2)), nothing())
	spare := append(slices.Clone(c), always(val.Int(8)), always(val.Int(9)))[:3]
	for _, l := range [][]fold.Cell{c, spare} {
		for _, r := range []int{-1, -2, 3, 4, 5, 63, 64, 200, 1 << 32, math.MinInt, math.MaxInt} {
			expectStep(t, mov(0, r), l, "? 2 .")
			expectStep(t, mov(r, 0), l, "1 2 .")
			expectStep(t, mov(r, r), l, "1 2 .")
			expectStep(t, number(r, 5), l, "1 2 .")
			expectStep(t, bin(api.OAdd, r, 0, 1), l, "1 2 .")
			expectStep(t, bin(api.OAdd, 0, r, 1), l, "? 2 .")
			expectStep(t, bin(api.OAdd, 0, 1, r), l, "? 2 .")
			expectStep(t, bin(api.OEq, 0, r, r), l, "? 2 .")
			expectStep(t, un(api.ONot, 0, r), l, "? 2 .")
			expectStep(t, un(api.ONot, r, 0), l, "1 2 .")
			expectStep(t, list(1, 0, r), l, "1 ? .")
			expectStep(t, list(r, 0), l, "1 2 .")
			expectStep(t, call(0, r, 0), l, "1 2 .")
			expectStep(t, call(0, 1, r), l, "1 ? .")
			expectStep(t, out(r), l, "1 2 .")
		}
	}
	if spare[:5][3].V.N != 8 || spare[:5][4].V.N != 9 {
		t.Error("spare room is written")
	}
	expectStep(t, mov(0, 0), cells(always(val.Int(1))), "1")
	expectStep(t, mov(1, 0), cells(always(val.Int(1))), "1")
}

// An Op that is none does nothing, whatever else stands in it.
func TestOpsThatAreNone(t *testing.T) {
	c := cells(always(val.Int(1)), nothing(), anything())
	for _, op := range []int{0, -1, 9, 10, 17, 32, 99, 1<<32 + api.RMov, math.MinInt, math.MaxInt} {
		for d := range 3 {
			expectStep(t, api.RIns{Op: op, D: d, A: 0, B: 0, N: api.OAdd, Deep: 1, K: val.Int(9), L: []int{0}}, c, "1 . ?")
		}
	}
}

// Fields that an Op does not have are not looked at.
func TestOtherFields(t *testing.T) {
	c := cells(always(val.Int(1)), always(val.Int(2)), anything())
	whole := api.RIns{D: 1, A: 0, B: 0, N: api.OAdd, Deep: 3, K: val.Int(9), L: []int{2, -1}}
	for op, want := range map[int]string{api.RConst: "1 9 ?", api.RMov: "1 1 ?", api.RBin: "1 2 ?", api.RUn: "1 ? ?", api.RCall: "1 ? ?", api.ROut: "1 2 ?", api.RTick: "1 2 ?", api.RList: "1 ? ?"} {
		i := whole
		i.Op = op
		expectStep(t, i, c, want)
	}
	i := whole
	i.Op, i.N, i.B = api.RUn, api.ONeg, 2
	expectStep(t, i, c, "1 -1 ?")
	i.Op, i.L, i.A, i.B = api.RList, []int{0}, 2, 2
	expectStep(t, i, c, "1 [1] ?")
}

// A Cell of a Kind that is none stays; what is made of it is anything, and a copy of it is as it is.
func TestStepOfOtherKinds(t *testing.T) {
	for _, kind := range []int{-1, 3, 99} {
		c := cells(fold.Cell{Kind: kind, V: val.Int(4)}, always(val.Int(1)), nothing())
		for _, i := range code(out(0), number(2, 1), bin(api.OAdd, 2, 1, 0), bin(api.OEq, 2, 0, 2), un(api.ONot, 2, 0), list(2, 0, 1), mov(2, 0)) {
			got := fold.Step(i, c)
			want := anything()
			switch i.Op {
			case api.ROut:
				want = nothing()
			case api.RConst:
				want = always(val.Int(1))
			case api.RMov:
				want = c[0]
			}
			if !reflect.DeepEqual(got, cells(c[0], c[1], want)) {
				t.Error(i, got)
			}
		}
	}
}

// What is not Ok is nil: in an RConst, and in a Cell.
func TestStepOfWhatIsNotOk(t *testing.T) {
	for _, v := range notOk() {
		c := cells(always(v), anything())
		expectStep(t, konst(1, v), c, "nil nil")
		expectStep(t, mov(1, 0), c, "nil nil")
		expectStep(t, list(1, 0), c, "nil [nil]")
		expectStep(t, un(api.ONot, 1, 0), c, "nil 1")
		expectStep(t, un(api.OLen, 1, 0), c, "nil ?")
		expectStep(t, bin(api.OEq, 1, 0, 0), c, "nil 1")
		if got := fold.Step(konst(1, v), c); !reflect.DeepEqual(got, cells(always(val.Nil()), always(val.Nil()))) {
			t.Error(short(got))
		}
	}
}

// What is known beside stays as it was, all of it.
func TestOthersStay(t *testing.T) {
	c := cells(nothing(), anything())
	for _, v := range distinct() {
		c = append(c, always(v))
	}
	for d := range c {
		for _, i := range code(number(d, 77), mov(d, 0), call(0, d), list(d, d)) {
			got := fold.Step(i, c)
			if len(got) != len(c) {
				t.Fatal(i, len(got))
			}
			got[d] = c[d]
			if !reflect.DeepEqual(got, c) {
				t.Fatal(i, short(got))
			}
		}
	}
}
