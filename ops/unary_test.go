package ops_test

import (
	"math"
	"strconv"
	"testing"

	"ratline/api"
	"ratline/ops"
	"ratline/val"
)

// Promise 3.2.

func TestNegated(t *testing.T) {
	for n, c := range []struct{ a, want api.Value }{
		{val.Int(5), val.Int(-5)},
		{val.Int(-5), val.Int(5)},
		{val.Int(0), val.Int(0)},
		{val.Int(math.MinInt64), val.Int(math.MinInt64)},
		{val.Int(math.MaxInt64), val.Int(math.MinInt64 + 1)},
		{val.Cx(0), val.Cx(0)},
		{val.Cx(1), val.Cx(-1)},
		{val.Cx(1i), val.Cx(-1i)},
		{val.Cx(complex(-0.5, math.MaxFloat64)), val.Cx(complex(0.5, -math.MaxFloat64))},
	} {
		got := of(ops.Unary(api.ONeg, c.a))
		if expect(t, strconv.Itoa(n), got, well(c.want)); !val.Ok(got.v) {
			t.Errorf("%d: %v is not Ok", n, got.v)
		}
	}
}

func TestNot(t *testing.T) {
	for _, v := range append(wrongs(), val.Nil(), val.Int(0), val.Cx(0), val.Text(""), list()) {
		expect(t, "not "+val.Show(v), of(ops.Unary(api.ONot, v)), well(val.Int(1)))
	}
	for _, v := range []api.Value{val.Int(1), val.Int(-1), val.Int(math.MinInt64), val.Cx(1i), val.Cx(-1), val.Text("0"), val.Text("\x00"), list(val.Nil()), nested(24)} {
		expect(t, "not "+val.Show(v), of(ops.Unary(api.ONot, v)), well(val.Int(0)))
	}
}

func TestHowMany(t *testing.T) {
	for n, c := range []struct {
		a    api.Value
		want int64
	}{
		{val.Text(""), 0},
		{val.Text("abc"), 3},
		{val.Text("é\n"), 3},
		{text(999), 999},
		{list(), 0},
		{list(val.Int(1), list(val.Int(2), val.Int(3))), 2},
		{list(make([]api.Value, 999)...), 999},
		{nested(24), 1},
	} {
		expect(t, strconv.Itoa(n), of(ops.Unary(api.OLen, c.a)), well(val.Int(c.want)))
	}
}

func TestParts(t *testing.T) {
	for n, c := range []struct {
		a      api.Value
		re, im complex128
	}{
		{val.Int(5), 5, 0},
		{val.Int(0), 0, 0},
		{val.Int(-3), -3, 0},
		{val.Int(1<<53 + 1), 1 << 53, 0},
		{val.Int(math.MaxInt64), 1 << 63, 0},
		{val.Int(math.MinInt64), -1 << 63, 0},
		{val.Cx(1i), 0, 1},
		{val.Cx(complex(2.5, -4)), 2.5, -4},
		{val.Cx(complex(-math.MaxFloat64, math.SmallestNonzeroFloat64)), -math.MaxFloat64, math.SmallestNonzeroFloat64},
	} {
		expect(t, "re "+strconv.Itoa(n), of(ops.Unary(api.ORe, c.a)), well(val.Cx(c.re)))
		expect(t, "im "+strconv.Itoa(n), of(ops.Unary(api.OIm, c.a)), well(val.Cx(c.im)))
	}
}

func TestConjugate(t *testing.T) {
	for n, c := range []struct{ a, want api.Value }{
		{val.Int(7), val.Int(7)},
		{val.Int(0), val.Int(0)},
		{val.Int(math.MinInt64), val.Int(math.MinInt64)},
		{val.Cx(1i), val.Cx(-1i)},
		{val.Cx(complex(-2, -3)), val.Cx(complex(-2, 3))},
		{val.Cx(4), val.Cx(4)},
		{val.Cx(0), val.Cx(0)},
	} {
		got := of(ops.Unary(api.OConj, c.a))
		if expect(t, strconv.Itoa(n), got, well(c.want)); !val.Ok(got.v) {
			t.Errorf("%d: %v is not Ok", n, got.v)
		}
	}
}

func TestKindsOfOne(t *testing.T) {
	for op := api.ONeg; op <= api.OConj; op++ {
		for i, v := range sounds() {
			taken := v.Kind == api.VInt || v.Kind == api.VCx
			if op == api.ONot {
				taken = true
			}
			if op == api.OLen {
				taken = v.Kind == api.VText || v.Kind == api.VList
			}
			if got := of(ops.Unary(op, v)); !taken {
				expect(t, strconv.Itoa(op), got, failing(api.RKind))
			} else if got.e != api.ROK {
				t.Errorf("op %d of value %d: %d", op, i, got.e)
			}
		}
	}
}

func TestWrongsOfOneAreAsNil(t *testing.T) {
	for op := api.ONeg; op <= api.OConj; op++ {
		for i, w := range wrongs() {
			expect(t, "op "+strconv.Itoa(op)+" of wrong "+strconv.Itoa(i), of(ops.Unary(op, w)), of(ops.Unary(op, val.Nil())))
		}
	}
}

func TestNoOpOfOne(t *testing.T) {
	none := noOps()
	for op := api.OAdd; op <= api.OCx; op++ {
		none = append(none, op)
	}
	for _, op := range none {
		for _, v := range sounds() {
			expect(t, strconv.Itoa(op), of(ops.Unary(op, v)), failing(api.RKind))
		}
	}
}
