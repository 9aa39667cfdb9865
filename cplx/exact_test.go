package cplx_test

import (
	"math"
	"math/big"
	"testing"

	"ratline/api"
)

// The arithmetic of 1.2 told a second time: each step is worked out exactly and then rounded to a float64 by itself.

func rounded(step func(z, x, y *big.Rat) *big.Rat, x, y float64) float64 {
	f, _ := step(new(big.Rat), new(big.Rat).SetFloat64(x), new(big.Rat).SetFloat64(y)).Float64()
	return f
}

func times(x, y float64) float64 {
	return rounded((*big.Rat).Mul, x, y)
}

func plus(x, y float64) float64 {
	if badPart(x) || badPart(y) {
		return x + y
	}
	return rounded((*big.Rat).Add, x, y)
}

func by(x, y float64) float64 {
	if badPart(x) {
		return x / y
	}
	return rounded((*big.Rat).Quo, x, y)
}

func answer(re, im float64) (complex128, api.Run) {
	if badPart(re) || badPart(im) {
		return 0, api.RRange
	}
	return takenFor(complex(re, im)), api.ROK
}

func exactAdd(a, b complex128) (complex128, api.Run) {
	return answer(plus(real(a), real(b)), plus(imag(a), imag(b)))
}

func exactSub(a, b complex128) (complex128, api.Run) {
	return answer(plus(real(a), -real(b)), plus(imag(a), -imag(b)))
}

func exactMul(a, b complex128) (complex128, api.Run) {
	re := plus(times(real(a), real(b)), -times(imag(a), imag(b)))
	im := plus(times(real(a), imag(b)), times(imag(a), real(b)))
	return answer(re, im)
}

func exactDiv(a, b complex128) (complex128, api.Run) {
	if b == 0 {
		return 0, api.RZero
	}
	n := plus(times(real(b), real(b)), times(imag(b), imag(b)))
	if n == 0 || math.IsInf(n, 0) {
		return 0, api.RRange
	}
	re := plus(times(real(a), real(b)), times(imag(a), imag(b)))
	im := plus(times(imag(a), real(b)), -times(real(a), imag(b)))
	return answer(by(re, n), by(im, n))
}

// Promise 1.2: every answer is that of the steps, to the bit.
func TestEachStepIsRoundedByItself(t *testing.T) {
	numbers := numbersOf(soundParts())
	for _, f := range binaries() {
		for _, a := range numbers {
			for _, b := range numbers {
				got, e := f.call(a, b)
				want, we := f.exact(a, b)
				if !identical(got, want) || e != we {
					t.Fatalf("%s(%v, %v) = %v, %v; want %v, %v", f.name, a, b, got, e, want, we)
				}
			}
		}
	}
}

// A product melted with its sum keeps digits that the rounding should have taken: here one way tells nought and the other does not.
func TestProductsAreRoundedAheadOfTheSum(t *testing.T) {
	x, y := 1+0x1p-30, 1-0x1p-29
	rest := math.FMA(x, y, -times(x, y))
	if rest == 0 {
		t.Fatal("the sample tells nothing")
	}
	for _, f := range binaries() {
		if f.name != "Mul" && f.name != "Div" {
			continue
		}
		for _, c := range [][2]complex128{
			{complex(x, x), complex(y, y)},
			{complex(x, x), complex(y, -y)},
			{complex(x, -y), complex(y, x)},
			{complex(x, y), complex(x, y)},
			{complex(x, y), complex(x, -y)},
		} {
			got, e := f.call(c[0], c[1])
			want, we := f.exact(c[0], c[1])
			if !identical(got, want) || e != we {
				t.Errorf("%s(%v, %v) = %v, %v; want %v, %v", f.name, c[0], c[1], got, e, want, we)
			}
		}
	}
}
