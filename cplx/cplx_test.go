package cplx_test

import (
	"math"
	"testing"

	"ratline/api"
	"ratline/cplx"
)

const (
	most  = math.MaxFloat64
	least = math.SmallestNonzeroFloat64
)

var (
	inf   = math.Inf(1)
	nan   = math.NaN()
	minus = math.Copysign(0, -1)
)

type binary struct {
	name        string
	call, exact func(a, b complex128) (complex128, api.Run)
}

func binaries() []binary {
	return []binary{
		{"Add", cplx.Add, exactAdd},
		{"Sub", cplx.Sub, exactSub},
		{"Mul", cplx.Mul, exactMul},
		{"Div", cplx.Div, exactDiv},
	}
}

func soundParts() []float64 {
	return []float64{0, 1, -1, 0.1, -3, 1 + 0x1p-30, 1e-200, -1e-160, 1.2e154, most, -most, least, -0x1p-1022}
}

func hostileParts() []float64 {
	return []float64{0, minus, 1, -2.5, inf, -inf, nan, -nan, math.Float64frombits(0x7ff0000000000001), most, -most, least, -least}
}

func numbersOf(parts []float64) []complex128 {
	var l []complex128
	for _, re := range parts {
		for _, im := range parts {
			l = append(l, complex(re, im))
		}
	}
	return l
}

// bitsOf looks at the parts themselves: == takes minus nought for nought, and what is no number for unlike itself.
func bitsOf(z complex128) [2]uint64 {
	return [2]uint64{math.Float64bits(real(z)), math.Float64bits(imag(z))}
}

func identical(a, b complex128) bool {
	return bitsOf(a) == bitsOf(b)
}

func badPart(x float64) bool {
	return math.IsInf(x, 0) || math.IsNaN(x)
}

func isSound(z complex128) bool {
	return identical(z, takenFor(z))
}

// takenFor is what 1.1 says that every call takes for z.
func takenFor(z complex128) complex128 {
	re, im := real(z), imag(z)
	if badPart(re) || badPart(im) {
		return 0
	}
	if re == 0 {
		re = 0
	}
	if im == 0 {
		im = 0
	}
	return complex(re, im)
}

// Promise 1.1.

func TestOk(t *testing.T) {
	for _, c := range []struct {
		z    complex128
		want bool
	}{
		{0, true},
		{complex(1, -2.5), true},
		{complex(most, -most), true},
		{complex(least, -least), true},
		{complex(minus, 0), false},
		{complex(0, minus), false},
		{complex(minus, minus), false},
		{complex(1, minus), false},
		{complex(inf, 0), false},
		{complex(0, inf), false},
		{complex(-inf, 1), false},
		{complex(1, -inf), false},
		{complex(nan, 0), false},
		{complex(0, nan), false},
		{complex(nan, inf), false},
		{complex(-nan, minus), false},
	} {
		if got := cplx.Ok(c.z); got != c.want {
			t.Errorf("Ok(%v) = %v", c.z, got)
		}
	}
}

func TestClean(t *testing.T) {
	for _, c := range []struct {
		z, want complex128
		e       api.Run
	}{
		{0, 0, api.ROK},
		{complex(1, -2.5), complex(1, -2.5), api.ROK},
		{complex(-most, least), complex(-most, least), api.ROK},
		{complex(minus, minus), 0, api.ROK},
		{complex(minus, 3), complex(0, 3), api.ROK},
		{complex(-3, minus), complex(-3, 0), api.ROK},
		{complex(inf, 1), 0, api.RRange},
		{complex(1, inf), 0, api.RRange},
		{complex(-inf, 1), 0, api.RRange},
		{complex(1, -inf), 0, api.RRange},
		{complex(nan, 1), 0, api.RRange},
		{complex(1, nan), 0, api.RRange},
		{complex(minus, nan), 0, api.RRange},
		{complex(inf, minus), 0, api.RRange},
	} {
		if got, e := cplx.Clean(c.z); !identical(got, c.want) || e != c.e {
			t.Errorf("Clean(%v) = %v, %v", c.z, got, e)
		}
	}
}

func TestOf(t *testing.T) {
	for _, c := range []struct {
		re, im int64
		want   complex128
	}{
		{0, 0, 0},
		{3, -4, complex(3, -4)},
		{1<<53 + 1, 0, complex(1<<53, 0)},
		{1<<53 + 3, -(1<<53 + 1), complex(1<<53+4, -(1 << 53))},
		{math.MaxInt64, math.MinInt64, complex(0x1p63, -0x1p63)},
		{math.MinInt64, math.MaxInt64, complex(-0x1p63, 0x1p63)},
	} {
		if got := cplx.Of(c.re, c.im); !identical(got, c.want) {
			t.Errorf("Of(%d, %d) = %v", c.re, c.im, got)
		}
	}
}

func TestUnsoundOneByOne(t *testing.T) {
	for _, z := range numbersOf(hostileParts()) {
		s := takenFor(z)
		if !identical(cplx.Neg(z), cplx.Neg(s)) {
			t.Errorf("Neg(%v) = %v", z, cplx.Neg(z))
		}
		if !identical(cplx.Conj(z), cplx.Conj(s)) {
			t.Errorf("Conj(%v) = %v", z, cplx.Conj(z))
		}
		if !cplx.Same(z, s) || !cplx.Same(s, z) {
			t.Errorf("Same(%v, %v) is false", z, s)
		}
		if cplx.Text(z) != cplx.Text(s) {
			t.Errorf("Text(%v) = %s", z, cplx.Text(z))
		}
		if re, im := cplx.Bits(z); [2]uint64{re, im} != bitsOf(s) {
			t.Errorf("Bits(%v) = %x, %x", z, re, im)
		}
	}
}

func TestUnsoundOperands(t *testing.T) {
	hostile := numbersOf(hostileParts())
	for _, f := range binaries() {
		for _, a := range hostile {
			for _, b := range hostile {
				got, e := f.call(a, b)
				want, we := f.call(takenFor(a), takenFor(b))
				if !identical(got, want) || e != we {
					t.Fatalf("%s(%v, %v) = %v, %v; of what they are taken for: %v, %v", f.name, a, b, got, e, want, we)
				}
			}
		}
	}
}

// Promise 1.2.

type sample struct {
	name       string
	a, b, want complex128
	e          api.Run
}

func checkSamples(t *testing.T, call func(a, b complex128) (complex128, api.Run), samples []sample) {
	t.Helper()
	for _, c := range samples {
		if got, e := call(c.a, c.b); !identical(got, c.want) || e != c.e {
			t.Errorf("%s: of %v and %v: %v, %v", c.name, c.a, c.b, got, e)
		}
	}
}

func TestAdd(t *testing.T) {
	checkSamples(t, cplx.Add, []sample{
		{"ordinary", complex(1, 2), complex(3, -5), complex(4, -3), api.ROK},
		{"to nought", complex(1, 2), complex(-1, -2), 0, api.ROK},
		{"real part too great", complex(most, 0), complex(most, 0), 0, api.RRange},
		{"imaginary part too great", complex(1, -most), complex(1, -most), 0, api.RRange},
		{"not sound", complex(1, inf), complex(1, 0), complex(1, 0), api.ROK},
	})
}

func TestSub(t *testing.T) {
	checkSamples(t, cplx.Sub, []sample{
		{"ordinary", complex(1, 2), complex(3, -5), complex(-2, 7), api.ROK},
		{"of itself", complex(-1, 7), complex(-1, 7), 0, api.ROK},
		{"of minus nought", complex(minus, minus), 0, 0, api.ROK},
		{"too great", complex(0, -most), complex(0, most), 0, api.RRange},
	})
}

func TestMul(t *testing.T) {
	checkSamples(t, cplx.Mul, []sample{
		{"of the document", complex(0, 1), complex(0, 1), complex(-1, 0), api.ROK},
		{"ordinary", complex(1, 2), complex(3, 4), complex(-5, 10), api.ROK},
		{"by nought", complex(-1, -1), 0, 0, api.ROK},
		{"to minus nought", complex(-least, 0), complex(least, 0), 0, api.ROK},
		{"too great", complex(most, 0), complex(2, 0), 0, api.RRange},
		{"infinite less infinite", complex(most, most), complex(most, most), 0, api.RRange},
	})
}

func TestDiv(t *testing.T) {
	checkSamples(t, cplx.Div, []sample{
		{"ordinary", complex(-5, 10), complex(3, 4), complex(1, 2), api.ROK},
		{"by i", complex(1, 0), complex(0, 1), complex(0, -1), api.ROK},
		{"by a real one", complex(0, 1), complex(2, 0), complex(0, 0.5), api.ROK},
		{"of nought", 0, complex(-1, -1), 0, api.ROK},
		{"of the document", complex(1, 0), 0, 0, api.RZero},
		{"nought by nought", 0, 0, 0, api.RZero},
		{"by minus nought", complex(1, 0), complex(minus, minus), 0, api.RZero},
		{"by what is not sound", complex(1, 0), complex(nan, 5), 0, api.RZero},
		{"sum of squares nought", complex(1, 0), complex(1e-200, 1e-200), 0, api.RRange},
		{"sum of squares nought, of nought", 0, complex(0, least), 0, api.RRange},
		{"sum of squares the least", complex(0x1p-537, 0), complex(0x1p-537, 0), complex(1, 0), api.ROK},
		{"a square infinite", complex(1, 0), complex(0, most), 0, api.RRange},
		{"sum of finite squares infinite", complex(1, 0), complex(1.2e154, 1.2e154), 0, api.RRange},
		{"of nought, sum of squares infinite", 0, complex(most, 0), 0, api.RRange},
		{"too great", complex(most, 0), complex(0.5, 0), 0, api.RRange},
		{"a product infinite, the quotient not", complex(most, 0), complex(2, 0), 0, api.RRange},
		{"infinite less infinite", complex(most, most), complex(2, 2), 0, api.RRange},
	})
}

func TestNeg(t *testing.T) {
	for _, c := range [][2]complex128{
		{complex(1, -2), complex(-1, 2)},
		{0, 0},
		{complex(0, 3), complex(0, -3)},
		{complex(-3, 0), complex(3, 0)},
		{complex(most, least), complex(-most, -least)},
		{complex(minus, minus), 0},
		{complex(nan, 3), 0},
		{complex(3, inf), 0},
	} {
		if got := cplx.Neg(c[0]); !identical(got, c[1]) {
			t.Errorf("Neg(%v) = %v", c[0], got)
		}
	}
}

func TestConj(t *testing.T) {
	for _, c := range [][2]complex128{
		{complex(2, 3), complex(2, -3)},
		{complex(-2, -3), complex(-2, 3)},
		{complex(2, 0), complex(2, 0)},
		{complex(minus, minus), 0},
		{complex(2, nan), 0},
		{complex(-inf, 3), 0},
	} {
		if got := cplx.Conj(c[0]); !identical(got, c[1]) {
			t.Errorf("Conj(%v) = %v", c[0], got)
		}
	}
}

func TestSame(t *testing.T) {
	for _, c := range []struct {
		a, b complex128
		want bool
	}{
		{complex(1, 2), complex(1, 2), true},
		{complex(1, 2), complex(1, 3), false},
		{complex(1, 2), complex(2, 2), false},
		{complex(1, 0), complex(0, 1), false},
		{complex(1, 0), complex(1+0x1p-52, 0), false},
		{0, complex(least, 0), false},
		{complex(minus, 0), complex(0, minus), true},
		{complex(nan, 0), complex(0, inf), true},
		{complex(nan, 1), complex(0, 1), false},
	} {
		if cplx.Same(c.a, c.b) != c.want || cplx.Same(c.b, c.a) != c.want {
			t.Errorf("Same(%v, %v) is not %v", c.a, c.b, c.want)
		}
	}
}

// Promise 1.5, and W11: whatever comes in, no call panics and every number that comes out is sound.

func TestAnswersAreSound(t *testing.T) {
	hostile := append(numbersOf(hostileParts()), numbersOf(soundParts())...)
	for _, a := range hostile {
		clean, _ := cplx.Clean(a)
		for _, z := range []complex128{clean, cplx.Neg(a), cplx.Conj(a)} {
			if !isSound(z) {
				t.Errorf("Clean, Neg or Conj of %v: %v", a, z)
			}
		}
		for _, b := range hostile {
			for _, f := range binaries() {
				if z, e := f.call(a, b); !isSound(z) || e != api.ROK && z != 0 {
					t.Fatalf("%s(%v, %v) = %v, %v", f.name, a, b, z, e)
				}
			}
		}
	}
}
