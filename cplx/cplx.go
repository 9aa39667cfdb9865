// Package cplx holds the numbers of two parts: complex numbers whose parts are finite and none of them minus nought, so that two that are equal are the same to the bit.
package cplx

import (
	"math"

	"ratline/api"
)

// Ok tells whether z is sound.
func Ok(z complex128) bool {
	return soundPart(real(z)) && soundPart(imag(z))
}

// Of makes a number of two whole ones; a part that no float64 holds is rounded to the nearest.
func Of(re, im int64) complex128 {
	return complex(float64(re), float64(im))
}

// Clean makes minus nought nought in each part; RRange, if a part is infinite or not a number.
func Clean(z complex128) (complex128, api.Run) {
	re, im := real(z), imag(z)
	if !finite(re) || !finite(im) {
		return 0, api.RRange
	}
	return complex(withoutMinusNought(re), withoutMinusNought(im)), api.ROK
}

// Add is the sum, part by part.
func Add(a, b complex128) (complex128, api.Run) {
	a, b = sound(a), sound(b)
	return Clean(complex(real(a)+real(b), imag(a)+imag(b)))
}

// Sub is the difference, part by part.
func Sub(a, b complex128) (complex128, api.Run) {
	a, b = sound(a), sound(b)
	return Clean(complex(real(a)-real(b), imag(a)-imag(b)))
}

// Mul is the product.
func Mul(a, b complex128) (complex128, api.Run) {
	a, b = sound(a), sound(b)
	re := product(real(a), real(b)) - product(imag(a), imag(b))
	im := product(real(a), imag(b)) + product(imag(a), real(b))
	return Clean(complex(re, im))
}

// Div is the quotient; RZero, if b is nought; RRange too, if the sum of the squares of b's parts is nought or infinite.
func Div(a, b complex128) (complex128, api.Run) {
	a, b = sound(a), sound(b)
	if b == 0 {
		return 0, api.RZero
	}
	n := product(real(b), real(b)) + product(imag(b), imag(b))
	if n == 0 || !finite(n) {
		return 0, api.RRange
	}
	re := product(real(a), real(b)) + product(imag(a), imag(b))
	im := product(imag(a), real(b)) - product(real(a), imag(b))
	return Clean(complex(re/n, im/n))
}

// Neg turns the signs of both parts.
func Neg(a complex128) complex128 {
	a = sound(a)
	return sound(complex(-real(a), -imag(a)))
}

// Conj turns the sign of the imaginary part.
func Conj(a complex128) complex128 {
	a = sound(a)
	return sound(complex(real(a), -imag(a)))
}

// Same tells whether both parts are equal.
func Same(a, b complex128) bool {
	return sound(a) == sound(b)
}

// sound is what every call takes for z: z Cleaned, or nought if that fails.
func sound(z complex128) complex128 {
	c, _ := Clean(z) // beside an error Clean answers nought
	return c
}

// product rounds: without the conversion the compiler may melt the product and the sum that takes it into one step, and some machines would tell other bits than others.
func product(x, y float64) float64 {
	return float64(x * y)
}

func soundPart(x float64) bool {
	return finite(x) && !(x == 0 && math.Signbit(x))
}

func finite(x float64) bool {
	return !math.IsInf(x, 0) && !math.IsNaN(x)
}

func withoutMinusNought(x float64) float64 {
	if x == 0 {
		return 0
	}
	return x
}
