package cplx

import "math"

// Where the marks of a number's text stand; sixteen digits are between each two of them.
const (
	openAt   = 0
	commaAt  = 17
	closeAt  = 34
	textSize = 35
)

const digits = "0123456789abcdef"

// Bits are the bits of both parts.
func Bits(z complex128) (re, im uint64) {
	z = sound(z)
	return math.Float64bits(real(z)), math.Float64bits(imag(z))
}

// FromBits is the number of such parts; false, if it is not sound.
func FromBits(re, im uint64) (complex128, bool) {
	z := complex(math.Float64frombits(re), math.Float64frombits(im))
	if !Ok(z) {
		return 0, false
	}
	return z, true
}

// Text tells the bits of both parts, so that nothing is lost on the way there and back.
func Text(z complex128) string {
	re, im := Bits(z)
	t := make([]byte, 0, textSize)
	t = append(t, '<')
	t = appendDigits(t, re)
	t = append(t, ',')
	t = appendDigits(t, im)
	t = append(t, '>')
	return string(t)
}

// Parse is the sound number whose Text s is; false, if there is none.
func Parse(s string) (complex128, bool) {
	if len(s) != textSize || s[openAt] != '<' || s[commaAt] != ',' || s[closeAt] != '>' {
		return 0, false
	}
	re, ok := readDigits(s[openAt+1 : commaAt])
	if !ok {
		return 0, false
	}
	im, ok := readDigits(s[commaAt+1 : closeAt])
	if !ok {
		return 0, false
	}
	return FromBits(re, im)
}

func appendDigits(t []byte, n uint64) []byte {
	for shift := 60; shift >= 0; shift -= 4 {
		t = append(t, digits[n>>shift&15])
	}
	return t
}

// readDigits is stricter than strconv: a text is of one number only, so A to F are no digits.
func readDigits(s string) (uint64, bool) {
	n := uint64(0)
	for i := range len(s) {
		d, ok := digitOf(s[i])
		if !ok {
			return 0, false
		}
		n = n<<4 | d
	}
	return n, true
}

func digitOf(b byte) (uint64, bool) {
	switch {
	case '0' <= b && b <= '9':
		return uint64(b - '0'), true
	case 'a' <= b && b <= 'f':
		return uint64(b-'a') + 10, true
	}
	return 0, false
}
