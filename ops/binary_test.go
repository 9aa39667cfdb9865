package ops_test

import (
	"math"
	"math/big"
	"strconv"
	"strings"
	"testing"

	"ratline/api"
	"ratline/cplx"
	"ratline/ops"
	"ratline/val"
)

// Promise 3.1: numbers.

func edgeInts() []int64 {
	return []int64{0, 1, -1, 2, -2, 3, 7, -7, 10, 1 << 31, -1 << 31, 1 << 32, 3037000500, -3037000500, 1<<53 + 1, math.MaxInt64, math.MaxInt64 - 1, math.MinInt64, math.MinInt64 + 1}
}

// wrapped is n's last 64 bits, read as an int.
func wrapped(n *big.Int) int64 {
	low := new(big.Int).And(n, new(big.Int).SetUint64(math.MaxUint64))
	return int64(low.Uint64())
}

func TestIntsWrap(t *testing.T) {
	steps := map[int]func(z, a, b *big.Int) *big.Int{
		api.OAdd: (*big.Int).Add, api.OSub: (*big.Int).Sub, api.OMul: (*big.Int).Mul,
		api.ODiv: (*big.Int).Quo, api.OMod: (*big.Int).Rem,
	}
	for op, step := range steps {
		for _, a := range edgeInts() {
			for _, b := range edgeInts() {
				what := strconv.FormatInt(a, 10) + ops.Name(op) + strconv.FormatInt(b, 10)
				want := failing(api.RZero)
				if b != 0 || op < api.ODiv {
					want = well(val.Int(wrapped(step(new(big.Int), big.NewInt(a), big.NewInt(b)))))
				}
				expect(t, what, of(ops.Binary(op, val.Int(a), val.Int(b))), want)
			}
		}
	}
}

func TestIntsByHand(t *testing.T) {
	for _, c := range []struct {
		op         int
		a, b, want int64
	}{
		{api.OAdd, math.MaxInt64, 1, math.MinInt64},
		{api.OAdd, math.MinInt64, -1, math.MaxInt64},
		{api.OSub, math.MinInt64, 1, math.MaxInt64},
		{api.OSub, 0, math.MinInt64, math.MinInt64},
		{api.OMul, math.MinInt64, -1, math.MinInt64},
		{api.OMul, 1 << 32, 1 << 32, 0},
		{api.ODiv, math.MinInt64, -1, math.MinInt64},
		{api.ODiv, 7, -2, -3},
		{api.ODiv, -7, 2, -3},
		{api.ODiv, -1, 2, 0},
		{api.OMod, math.MinInt64, -1, 0},
		{api.OMod, 7, -2, 1},
		{api.OMod, -7, 2, -1},
		{api.OMod, -7, -2, -1},
	} {
		expect(t, ops.Name(c.op), of(ops.Binary(c.op, val.Int(c.a), val.Int(c.b))), well(val.Int(c.want)))
	}
}

func TestTwoParts(t *testing.T) {
	half, i := val.Cx(0.5), val.Cx(1i)
	for n, c := range []struct {
		op   int
		a, b api.Value
		want complex128
	}{
		{api.OAdd, val.Int(2), i, complex(2, 1)},
		{api.OAdd, i, val.Int(2), complex(2, 1)},
		{api.OAdd, half, i, complex(0.5, 1)},
		{api.OSub, val.Int(2), i, complex(2, -1)},
		{api.OSub, i, val.Int(2), complex(-2, 1)},
		{api.OSub, i, i, 0},
		{api.OMul, val.Int(2), i, 2i},
		{api.OMul, i, val.Int(-2), -2i},
		{api.OMul, i, i, -1},
		{api.OMul, val.Int(-1), val.Cx(0), 0},
		{api.ODiv, val.Int(1), val.Cx(2), 0.5},
		{api.ODiv, i, val.Int(2), 0.5i},
		{api.ODiv, val.Cx(complex(-5, 10)), val.Cx(complex(3, 4)), complex(1, 2)},
		{api.ODiv, val.Int(0), val.Cx(-1), 0},
		// An int that no float64 holds is rounded, ahead of all else.
		{api.OSub, val.Int(1<<53 + 1), val.Cx(1 << 53), 0},
		{api.OAdd, val.Int(math.MaxInt64), val.Cx(0), 1 << 63},
		{api.OMul, val.Cx(1), val.Int(math.MinInt64), -1 << 63},
	} {
		expect(t, strconv.Itoa(n), of(ops.Binary(c.op, c.a, c.b)), well(val.Cx(c.want)))
	}
}

func TestTwoPartsAreThoseOfCplx(t *testing.T) {
	parts := []float64{0, 1, -1, 0.1, -3, 1e200, -1e-200, math.MaxFloat64, math.SmallestNonzeroFloat64}
	calls := map[int]func(a, b complex128) (complex128, api.Run){api.OAdd: cplx.Add, api.OSub: cplx.Sub, api.OMul: cplx.Mul, api.ODiv: cplx.Div}
	check := func(op int, a, b api.Value, x, y complex128) {
		want := answer{}
		z, e := calls[op](x, y)
		if want.e = e; e == api.ROK {
			want.v = val.Cx(z)
		}
		expect(t, val.Show(a)+ops.Name(op)+val.Show(b), of(ops.Binary(op, a, b)), want)
	}
	for op := range calls {
		for _, re := range parts {
			for _, im := range parts {
				z := complex(re, im)
				for _, n := range edgeInts() {
					check(op, val.Int(n), val.Cx(z), cplx.Of(n, 0), z)
					check(op, val.Cx(z), val.Int(n), z, cplx.Of(n, 0))
				}
				for _, re := range parts {
					w := complex(im, re)
					check(op, val.Cx(z), val.Cx(w), z, w)
				}
			}
		}
	}
}

func TestDivisionByNought(t *testing.T) {
	for n, c := range []struct {
		op   int
		a, b api.Value
		want api.Run
	}{
		{api.ODiv, val.Int(1), val.Int(0), api.RZero},
		{api.ODiv, val.Int(0), val.Int(0), api.RZero},
		{api.ODiv, val.Int(math.MinInt64), val.Int(0), api.RZero},
		{api.ODiv, val.Cx(1i), val.Int(0), api.RZero},
		{api.ODiv, val.Int(1), val.Cx(0), api.RZero},
		{api.ODiv, val.Cx(0), val.Cx(0), api.RZero},
		{api.OMod, val.Int(7), val.Int(0), api.RZero},
		{api.OMod, val.Int(0), val.Int(0), api.RZero},
		{api.OMod, val.Cx(1), val.Int(0), api.RKind},
		{api.OMod, val.Int(1), val.Cx(0), api.RKind},
		{api.OMod, val.Nil(), val.Int(0), api.RKind},
		{api.ODiv, val.Nil(), val.Int(0), api.RKind},
		{api.ODiv, text(1), val.Int(0), api.RKind},
		{api.ODiv, list(), val.Cx(0), api.RKind},
	} {
		expect(t, strconv.Itoa(n), of(ops.Binary(c.op, c.a, c.b)), failing(c.want))
	}
}

func TestTwoPartsBeyondRange(t *testing.T) {
	most, least := val.Cx(math.MaxFloat64), val.Cx(math.SmallestNonzeroFloat64)
	low := val.Cx(complex(0, -math.MaxFloat64))
	for n, c := range []struct {
		op   int
		a, b api.Value
	}{
		{api.OAdd, most, most},
		{api.OAdd, low, low},
		{api.OSub, low, val.Cx(complex(0, math.MaxFloat64))},
		{api.OMul, most, val.Int(2)},
		{api.OMul, val.Int(2), low},
		{api.OMul, val.Cx(1e200), val.Cx(1e200i)},
		{api.ODiv, val.Int(1), least},
		{api.ODiv, val.Int(1), most},
		{api.ODiv, most, val.Cx(1e-10)},
	} {
		expect(t, strconv.Itoa(n), of(ops.Binary(c.op, c.a, c.b)), failing(api.RRange))
	}
	expect(t, "the most and an int", of(ops.Binary(api.OAdd, most, val.Int(math.MaxInt64))), well(most))
	expect(t, "the most by 1", of(ops.Binary(api.OMul, val.Int(1), most)), well(most))
}

func TestOfTwoInts(t *testing.T) {
	expect(t, "1, -2", of(ops.Binary(api.OCx, val.Int(1), val.Int(-2))), well(val.Cx(complex(1, -2))))
	expect(t, "nought", of(ops.Binary(api.OCx, val.Int(0), val.Int(0))), well(val.Cx(0)))
	expect(t, "rounded", of(ops.Binary(api.OCx, val.Int(1<<53+1), val.Int(math.MinInt64))), well(val.Cx(complex(1<<53, -1<<63))))
}

// Promise 3.1: what is asked.

func number(holds bool) api.Value {
	if holds {
		return val.Int(1)
	}
	return val.Int(0)
}

func TestSameness(t *testing.T) {
	as, bs := append(sounds(), wrongs()...), append(sounds(), wrongs()...)
	for i, a := range as {
		for j, b := range bs {
			what := strconv.Itoa(i) + ", " + strconv.Itoa(j)
			ok := i < len(sounds()) && j < len(sounds())
			same := ok && i == j || !val.Ok(a) && (!val.Ok(b) || j == 0) || i == 0 && !val.Ok(b)
			expect(t, what, of(ops.Binary(api.OEq, a, b)), well(number(same)))
			expect(t, what, of(ops.Binary(api.ONe, a, b)), well(number(!same)))
		}
	}
	expect(t, "an int and its number of two parts", of(ops.Binary(api.OEq, val.Int(2), val.Cx(2))), well(val.Int(0)))
	expect(t, "0 and nil", of(ops.Binary(api.ONe, val.Int(0), val.Nil())), well(val.Int(1)))
}

func TestOrders(t *testing.T) {
	ints := []api.Value{val.Int(math.MinInt64), val.Int(math.MinInt64 + 1), val.Int(-2), val.Int(-1), val.Int(0), val.Int(1), val.Int(10), val.Int(math.MaxInt64)}
	texts := []api.Value{
		val.Text(""), val.Text("\x00"), val.Text("\x00\x00"), val.Text("10"), val.Text("9"), val.Text("A"),
		val.Text("a"), val.Text("aa\x00"), val.Text("a\xff"), val.Text("b"), val.Text("\x7f"), val.Text("\x80"), val.Text("é"), val.Text("\xff"),
	}
	for _, rising := range [][]api.Value{ints, texts} {
		for i, a := range rising {
			for j, b := range rising {
				what := val.Show(a) + ", " + val.Show(b)
				expect(t, "< "+what, of(ops.Binary(api.OLt, a, b)), well(number(i < j)))
				expect(t, "<= "+what, of(ops.Binary(api.OLe, a, b)), well(number(i <= j)))
				expect(t, "> "+what, of(ops.Binary(api.OGt, a, b)), well(number(i > j)))
				expect(t, ">= "+what, of(ops.Binary(api.OGe, a, b)), well(number(i >= j)))
			}
		}
	}
}

// Promise 3.1: texts and lists.

func TestJoined(t *testing.T) {
	one, two, three := val.Int(1), val.Text("2"), list(val.Int(3))
	for n, c := range []struct{ a, b, want api.Value }{
		{val.Text("a"), val.Text("b"), val.Text("ab")},
		{val.Text("b"), val.Text("a"), val.Text("ba")},
		{val.Text(""), val.Text(""), val.Text("")},
		{val.Text("\xc3"), val.Text("\xa9"), val.Text("é")},
		{list(), list(), list()},
		{list(one), list(two, three), list(one, two, three)},
		{list(two, three), list(one), list(two, three, one)},
		{list(), list(val.Nil()), list(val.Nil())},
	} {
		expect(t, strconv.Itoa(n), of(ops.Binary(api.OAdd, c.a, c.b)), well(c.want))
	}
}

func TestJoinedAtTheBounds(t *testing.T) {
	nils := func(n int) api.Value { return list(make([]api.Value, n)...) }
	for n, c := range []struct {
		a, b api.Value
		fits bool
	}{
		{text(500), text(499), true},
		{text(500), text(500), false},
		{text(999), text(0), true},
		{text(999), text(1), false},
		{text(1), text(999), false},
		{text(999), text(999), false},
		{nils(499), nils(500), true},
		{nils(500), nils(500), false},
		{nils(999), nils(0), true},
		{nils(0), nils(999), true},
		{nils(999), nils(1), false},
		{nils(1), nils(999), false},
		{nils(999), nils(999), false},
		{list(text(500)), list(text(497)), true},
		{list(text(500)), list(text(498)), false},
		{nested(24), nested(24), true},
		{nils(976), nested(24), true},
		{nils(977), nested(24), false},
	} {
		got := of(ops.Binary(api.OAdd, c.a, c.b))
		if !c.fits {
			expect(t, strconv.Itoa(n), got, failing(api.RBig))
			continue
		}
		if got.e != api.ROK || len(got.v.S) != len(c.a.S)+len(c.b.S) || len(got.v.L) != len(c.a.L)+len(c.b.L) {
			t.Errorf("%d: kind %d, error %d", n, got.v.Kind, got.e)
		}
	}
}

func TestGet(t *testing.T) {
	l := list(val.Int(5), list(val.Int(6)), val.Nil())
	long := strings.Repeat("x", 998) + "y"
	for n, c := range []struct {
		a    api.Value
		i    int64
		want answer
	}{
		{val.Text("ab"), 0, well(val.Text("a"))},
		{val.Text("ab"), 1, well(val.Text("b"))},
		{val.Text("ab"), 2, failing(api.RIndex)},
		{val.Text("ab"), -1, failing(api.RIndex)},
		{val.Text("é"), 1, well(val.Text("\xa9"))},
		{val.Text(""), 0, failing(api.RIndex)},
		{val.Text(long), 998, well(val.Text("y"))},
		{val.Text(long), 999, failing(api.RIndex)},
		{l, 0, well(val.Int(5))},
		{l, 1, well(list(val.Int(6)))},
		{l, 2, well(val.Nil())},
		{l, 3, failing(api.RIndex)},
		{l, -1, failing(api.RIndex)},
		{l, math.MinInt64, failing(api.RIndex)},
		{l, math.MaxInt64, failing(api.RIndex)},
		{l, 1 << 32, failing(api.RIndex)},
		{list(), 0, failing(api.RIndex)},
		{list(), -1, failing(api.RIndex)},
		{nested(24), 0, well(nested(23))},
		{list(text(998)), 0, well(text(998))},
	} {
		expect(t, strconv.Itoa(n), of(ops.Binary(api.OGet, c.a, val.Int(c.i))), c.want)
	}
}

func TestPush(t *testing.T) {
	one := val.Int(1)
	many := list(make([]api.Value, 998)...)
	full := list(make([]api.Value, 999)...)
	for n, c := range []struct {
		a, b api.Value
		want answer
	}{
		{list(one), val.Nil(), well(list(one, val.Nil()))},
		{list(), list(), well(list(list()))},
		{list(one), list(one), well(list(one, list(one)))},
		{list(one), text(2), well(list(one, text(2)))},
		{list(), val.Cx(1i), well(list(val.Cx(1i)))},
		{list(one), api.Value{Kind: 9}, well(list(one, val.Nil()))},
		{list(one), nested(25), well(list(one, val.Nil()))},
		{many, val.Nil(), well(full)},
		{full, val.Nil(), failing(api.RBig)},
		{many, text(1), failing(api.RBig)},
		{list(), text(998), well(list(text(998)))},
		{list(), text(999), failing(api.RBig)},
		{list(), nested(23), well(nested(24))},
		{list(), nested(24), failing(api.RBig)},
		{list(one), nested(24), failing(api.RBig)},
		{nested(24), nested(23), well(list(nested(23), nested(23)))},
	} {
		expect(t, strconv.Itoa(n), of(ops.Binary(api.OPush, c.a, c.b)), c.want)
	}
}

// Promise 3.1: kinds, what is not Ok, what is no op.

// takes tells, from the chapter's words, whether op takes such kinds.
func takes(op, a, b int) bool {
	numbers := (a == api.VInt || a == api.VCx) && (b == api.VInt || b == api.VCx)
	ints := a == api.VInt && b == api.VInt
	texts := a == api.VText && b == api.VText
	switch op {
	case api.OAdd:
		return numbers || texts || a == api.VList && b == api.VList
	case api.OSub, api.OMul, api.ODiv:
		return numbers
	case api.OMod, api.OCx:
		return ints
	case api.OEq, api.ONe:
		return true
	case api.OLt, api.OLe, api.OGt, api.OGe:
		return ints || texts
	case api.OGet:
		return (a == api.VList || a == api.VText) && b == api.VInt
	case api.OPush:
		return a == api.VList
	}
	return false
}

func TestKindsOfTwo(t *testing.T) {
	for op := api.OAdd; op <= api.OCx; op++ {
		for i, a := range sounds() {
			for j, b := range sounds() {
				got := of(ops.Binary(op, a, b))
				if (got.e != api.RKind) != takes(op, a.Kind, b.Kind) {
					t.Errorf("op %d of values %d and %d: %d", op, i, j, got.e)
				}
			}
		}
	}
}

func TestWrongsOfTwoAreAsNil(t *testing.T) {
	for op := api.OAdd; op <= api.OCx; op++ {
		for i, w := range wrongs() {
			what := "op " + strconv.Itoa(op) + " of wrong " + strconv.Itoa(i)
			for _, v := range sounds() {
				expect(t, what, of(ops.Binary(op, w, v)), of(ops.Binary(op, val.Nil(), v)))
				expect(t, what, of(ops.Binary(op, v, w)), of(ops.Binary(op, v, val.Nil())))
			}
			expect(t, what, of(ops.Binary(op, w, w)), of(ops.Binary(op, val.Nil(), val.Nil())))
		}
	}
}

func TestNoOpOfTwo(t *testing.T) {
	none := noOps()
	for op := api.ONeg; op <= api.OConj; op++ {
		none = append(none, op)
	}
	for _, op := range none {
		for _, v := range sounds() {
			expect(t, strconv.Itoa(op), of(ops.Binary(op, v, v)), failing(api.RKind))
		}
	}
}
