package cplx_test

import (
	"math"
	"strings"
	"testing"

	"ratline/cplx"
)

const oneLessTwo = "<3ff0000000000000,c000000000000000>"

// Promise 1.3.

func TestBits(t *testing.T) {
	for _, c := range []struct {
		z      complex128
		re, im uint64
	}{
		{0, 0, 0},
		{complex(1, -2), 0x3ff0000000000000, 0xc000000000000000},
		{complex(least, most), 1, 0x7fefffffffffffff},
		{complex(minus, minus), 0, 0},
		{complex(1, nan), 0, 0},
		{complex(inf, 1), 0, 0},
	} {
		if re, im := cplx.Bits(c.z); re != c.re || im != c.im {
			t.Errorf("Bits(%v) = %x, %x", c.z, re, im)
		}
	}
}

func TestFromBits(t *testing.T) {
	for _, c := range []struct {
		re, im uint64
		want   complex128
		ok     bool
	}{
		{0, 0, 0, true},
		{0x3ff0000000000000, 0xc000000000000000, complex(1, -2), true},
		{1, 0x7fefffffffffffff, complex(least, most), true},
		{1<<63 | 1, 0xffefffffffffffff, complex(-least, -most), true},
		{1 << 63, 0, 0, false},
		{0, 1 << 63, 0, false},
		{0x3ff0000000000000, 1 << 63, 0, false},
		{0x7ff0000000000000, 0, 0, false},
		{0, 0xfff0000000000000, 0, false},
		{0x7ff8000000000000, 0, 0, false},
		{0, 0x7ff0000000000001, 0, false},
		{math.MaxUint64, math.MaxUint64, 0, false},
	} {
		if z, ok := cplx.FromBits(c.re, c.im); !identical(z, c.want) || ok != c.ok {
			t.Errorf("FromBits(%x, %x) = %v, %v", c.re, c.im, z, ok)
		}
	}
}

func TestText(t *testing.T) {
	for _, c := range []struct {
		z    complex128
		want string
	}{
		{0, "<0000000000000000,0000000000000000>"},
		{complex(1, -2), oneLessTwo},
		{complex(least, -most), "<0000000000000001,ffefffffffffffff>"},
		{complex(math.Float64frombits(0x0123456789abcdef), 0), "<0123456789abcdef,0000000000000000>"},
		{complex(minus, minus), "<0000000000000000,0000000000000000>"},
		{complex(inf, 1), "<0000000000000000,0000000000000000>"},
		{complex(1, nan), "<0000000000000000,0000000000000000>"},
	} {
		if got := cplx.Text(c.z); got != c.want {
			t.Errorf("Text(%v) = %s", c.z, got)
		}
	}
}

func TestParse(t *testing.T) {
	if z, ok := cplx.Parse(oneLessTwo); !identical(z, complex(1, -2)) || !ok {
		t.Error(z, ok)
	}
	for _, s := range []string{
		"",
		"<>",
		"<,>",
		"1",
		" " + oneLessTwo,
		oneLessTwo + " ",
		oneLessTwo + oneLessTwo,
		strings.ToUpper(oneLessTwo),
		strings.Trim(oneLessTwo, "<>"),
		"<3ff000000000000,c000000000000000>",
		"<3ff0000000000000,c00000000000000>",
		"<3ff00000000000000,c000000000000000>",
		"<3ff00000000000000,c00000000000000>",
		"<3ff000000000000,0c000000000000000>",
		"<0x3ff00000000000,c000000000000000>",
		"<3ff0_00000000000,c000000000000000>",
		"<8000000000000000,0000000000000000>",
		"<0000000000000000,8000000000000000>",
		"<7ff0000000000000,0000000000000000>",
		"<0000000000000000,fff0000000000000>",
		"<7ff8000000000000,0000000000000000>",
		"<ffffffffffffffff,ffffffffffffffff>",
		"\u2039f0000000000000,c000000000000000>",
	} {
		if z, ok := cplx.Parse(s); !identical(z, 0) || ok {
			t.Errorf("Parse(%q) = %v, %v", s, z, ok)
		}
	}
}

// Each byte of a text is put to all that it can be: what is read is only what Text would write.
func TestParseTakesOnlyTexts(t *testing.T) {
	for at := range len(oneLessTwo) {
		read := 0
		for b := range 256 {
			s := oneLessTwo[:at] + string([]byte{byte(b)}) + oneLessTwo[at+1:]
			z, ok := cplx.Parse(s)
			if ok {
				read++
			}
			if ok && cplx.Text(z) != s || !ok && !identical(z, 0) {
				t.Errorf("Parse(%q) = %v, %v", s, z, ok)
			}
		}
		// Of sixteen digits two at the most make a part infinite or minus nought.
		mark := strings.IndexByte("<,>", oneLessTwo[at]) >= 0
		if mark && read != 1 || !mark && (read < 14 || read > 16) {
			t.Errorf("%d texts are read at place %d", read, at)
		}
	}
}

// Promise 1.4.

func TestThereAndBack(t *testing.T) {
	numbers := numbersOf(soundParts())
	for bit := range 64 {
		if z := complex(math.Float64frombits(1<<bit), math.Float64frombits(0xbff0000000000000^1<<bit)); isSound(z) {
			numbers = append(numbers, z)
		}
	}
	for _, z := range numbers {
		if w, ok := cplx.FromBits(cplx.Bits(z)); !identical(w, z) || !ok {
			t.Errorf("FromBits(Bits(%v)) = %v, %v", z, w, ok)
		}
		if w, ok := cplx.Parse(cplx.Text(z)); !identical(w, z) || !ok {
			t.Errorf("Parse(Text(%v)) = %v, %v", z, w, ok)
		}
	}
}

// Promise 1.5.

func TestParsePanicsAtNothing(t *testing.T) {
	long := strings.Repeat(oneLessTwo, 30000)
	for n := range 80 {
		cplx.Parse(long[:n])
		cplx.Parse(long[n:])
		cplx.Parse(strings.Repeat("\xff", n))
		cplx.Parse(strings.Repeat("<", n))
	}
}

func FuzzParse(f *testing.F) {
	f.Add(oneLessTwo)
	f.Add("<7ff0000000000000,0000000000000000>")
	f.Fuzz(func(t *testing.T, s string) {
		z, ok := cplx.Parse(s)
		if ok && (!isSound(z) || cplx.Text(z) != s) || !ok && !identical(z, 0) {
			t.Errorf("Parse(%q) = %v, %v", s, z, ok)
		}
	})
}
