package val_test

import (
	"math"
	"math/rand"
	"reflect"
	"strings"
	"testing"

	"ratline/api"
	"ratline/val"
)

type shown struct {
	v api.Value
	s string
}

func shownValues() []shown {
	one := api.Value{Kind: api.VInt, N: 1}
	return []shown{
		{api.Value{}, `nil`},
		{api.Value{Kind: api.VInt}, `0`},
		{one, `1`},
		{api.Value{Kind: api.VInt, N: -5}, `-5`},
		{api.Value{Kind: api.VInt, N: 1000000}, `1000000`},
		{api.Value{Kind: api.VInt, N: math.MaxInt64}, `9223372036854775807`},
		{api.Value{Kind: api.VInt, N: math.MinInt64}, `-9223372036854775808`},
		{api.Value{Kind: api.VCx}, `<0000000000000000,0000000000000000>`},
		{api.Value{Kind: api.VCx, Z: complex(1, -2)}, `<3ff0000000000000,c000000000000000>`},
		{api.Value{Kind: api.VText}, `""`},
		{api.Value{Kind: api.VText, S: "a b"}, `"a b"`},
		{api.Value{Kind: api.VText, S: `"`}, `"\""`},
		{api.Value{Kind: api.VText, S: `\`}, `"\\"`},
		{api.Value{Kind: api.VText, S: `\n`}, `"\\n"`},
		{api.Value{Kind: api.VText, S: "\n"}, `"\n"`},
		{api.Value{Kind: api.VText, S: "n\n\n\"\\"}, `"n\n\n\"\\"`},
		{api.Value{Kind: api.VText, S: "\r\t\x00\x7f"}, "\"\r\t\x00\x7f\""},
		{api.Value{Kind: api.VText, S: "é€\xff\xc3"}, "\"é€\xff\xc3\""},
		{api.Value{Kind: api.VText, S: "[1, <nil>]"}, `"[1, <nil>]"`},
		{rawList(), `[]`},
		{rawList(one, api.Value{Kind: api.VText, S: "a"}), `[1, "a"]`},
		{rawList(api.Value{}), `[nil]`},
		{rawList(rawList(), rawList(one, rawList(api.Value{Kind: api.VInt, N: -2})), one), `[[], [1, [-2]], 1]`},
		{rawList(api.Value{Kind: api.VCx, Z: 1i}, rawText(0)), `[<0000000000000000,3ff0000000000000>, ""]`},
		{nested(24), strings.Repeat("[", 24) + strings.Repeat("]", 24)},
		{within(24, one), strings.Repeat("[", 24) + "1" + strings.Repeat("]", 24)},
		{rawText(999), `"` + strings.Repeat("x", 999) + `"`},
		{api.Value{Kind: api.VText, S: strings.Repeat("\n", 999)}, `"` + strings.Repeat(`\n`, 999) + `"`},
		{rawList(make([]api.Value, 999)...), "[" + strings.Repeat("nil, ", 998) + "nil]"},
		{rawList(rawText(499), rawText(498)), `["` + strings.Repeat("x", 499) + `", "` + strings.Repeat("x", 498) + `"]`},
	}
}

// Promise 2.2.

func TestShow(t *testing.T) {
	for _, c := range shownValues() {
		if got := val.Show(c.v); got != c.s {
			t.Errorf("Show is %.60q, want %.60q", got, c.s)
		}
	}
}

func TestRead(t *testing.T) {
	for _, c := range shownValues() {
		if v, ok := val.Read(c.s); !ok || !reflect.DeepEqual(v, c.v) {
			t.Errorf("Read(%.60q) = %v of kind %d", c.s, ok, v.Kind)
		}
	}
}

func TestReadOfNoValue(t *testing.T) {
	for _, s := range []string{
		``, ` `, `Nil`, `nill`, `nil `, ` nil`, `ni`, `true`, "nil\n", "\x00",
		`-`, `--1`, `1-`, `+1`, `-0`, `00`, `05`, `-05`, `1 `, ` 1`, `1_0`, `0x1`, `1.0`, `1e3`, `1,`, `1, 2`,
		`9223372036854775808`, `-9223372036854775809`, `10000000000000000000`, `99999999999999999999`, `100000000000000000000`,
		strings.Repeat("0", 19) + "1", strings.Repeat("0", 30), strings.Repeat("9", 100000), strings.Repeat("-", 100000),
		`<`, `<>`, `<1,2>`, `<3ff0000000000000,c000000000000000`, `<3ff0000000000000,c000000000000000>>`,
		`<3FF0000000000000,0000000000000000>`, `<3ff0000000000000, 0000000000000000>`,
		`<8000000000000000,0000000000000000>`, `<7ff0000000000000,0000000000000000>`, `<0000000000000000,7ff8000000000000>`,
		`"`, `"a`, `a"`, `"""`, `"a"b"`, `"a""b"`, `"\"`, `"\`, `"\x"`, `"\t"`, `"\N"`, `"\0"`, "\"\\\n\"", "\"\n\"", `"a" `, `'a'`,
		`[`, `]`, `[[]`, `[]]`, `[1`, `[1, 2`, `[1,2]`, `[1,  2]`, `[1 ,2]`, `[1 , 2]`, `[1, ]`, `[1,]`, `[, 1]`, `[,]`, `[, ]`, `[ ]`, `[ 1]`, `[1 ]`, `[1 2]`, `[1][2]`, `[]1`, `[1, 2]]`, `[nil,nil]`, `[05]`, `["a]`, `[<1,2>]`, `(1)`,
		`"` + strings.Repeat("x", 1000) + `"`,
		`"` + strings.Repeat(`\n`, 1000) + `"`,
		`["` + strings.Repeat("x", 999) + `"]`,
		`["` + strings.Repeat("x", 499) + `", "` + strings.Repeat("x", 499) + `"]`,
		"[" + strings.Repeat("nil, ", 999) + "nil]",
		"[" + strings.Repeat("nil, ", 1<<20),
		strings.Repeat("[", 25) + strings.Repeat("]", 25),
		strings.Repeat("[", 25) + "1" + strings.Repeat("]", 25),
		"[1, " + strings.Repeat("[", 24) + strings.Repeat("]", 24) + "]",
		strings.Repeat("[", 1<<20),
		strings.Repeat(`"`, 1<<20),
	} {
		if v, ok := val.Read(s); ok || !reflect.DeepEqual(v, api.Value{}) {
			t.Errorf("Read(%.60q) = %v of kind %d", s, ok, v.Kind)
		}
	}
}

// textsOfLength are all texts of so many bytes that are the Show of a value, of those made from the bytes of someBytes.
func textsOfLength(n int) []string {
	l := bodiesOfLength(n-2, `"`, `"`, quotedOfLength)
	l = append(l, bodiesOfLength(n-2, `[`, `]`, itemsOfLength)...)
	switch n {
	case 1:
		l = append(l, "0", "1")
	case 2:
		l = append(l, "10", "11", "-1")
	case 3:
		l = append(l, "nil", "100", "101", "110", "111", "-10", "-11")
	case 4:
		for _, s := range textsOfLength(3) {
			if strings.HasPrefix(s, "1") {
				l = append(l, s+"0", s+"1", "-"+s)
			}
		}
	case 5:
		for _, s := range textsOfLength(4) {
			if strings.HasPrefix(s, "1") {
				l = append(l, s+"0", s+"1", "-"+s)
			}
		}
	}
	return l
}

const someBytes = "[], \"\\nil01-\n"

func bodiesOfLength(n int, open, end string, bodies func(int) []string) []string {
	var l []string
	if n < 0 {
		return l
	}
	for _, s := range bodies(n) {
		l = append(l, open+s+end)
	}
	return l
}

func quotedOfLength(n int) []string {
	if n < 0 {
		return nil
	}
	if n == 0 {
		return []string{""}
	}
	var l []string
	for _, s := range quotedOfLength(n - 1) {
		for _, b := range []string{"[", "]", ",", " ", "n", "i", "l", "0", "1", "-"} {
			l = append(l, s+b)
		}
	}
	for _, s := range quotedOfLength(n - 2) {
		l = append(l, s+`\"`, s+`\\`, s+`\n`)
	}
	return l
}

func itemsOfLength(n int) []string {
	if n == 0 {
		return []string{""}
	}
	l := textsOfLength(n)
	for k := 1; k+3 <= n; k++ {
		for _, s := range textsOfLength(k) {
			for _, rest := range itemsOfLength(n - k - 2) {
				l = append(l, s+", "+rest)
			}
		}
	}
	return l
}

// Of all short texts Read takes just those that are a Show.
func TestReadOfAllShortTexts(t *testing.T) {
	shows := map[string]bool{}
	for n := 1; n <= 5; n++ {
		for _, s := range textsOfLength(n) {
			shows[s] = true
		}
	}
	texts := []string{""}
	for range 5 {
		var longer []string
		for _, s := range texts {
			for i := range len(someBytes) {
				longer = append(longer, s+someBytes[i:i+1])
			}
		}
		texts = longer
		for _, s := range texts {
			if v, ok := val.Read(s); ok != shows[s] || ok && (!val.Ok(v) || val.Show(v) != s) {
				t.Fatalf("Read(%q) = %v, %v", s, v, ok)
			}
		}
	}
}

// Promise 2.3.

func someValue(r *rand.Rand, lists int) api.Value {
	switch r.Intn(6) {
	case 0:
		return api.Value{}
	case 1:
		return api.Value{Kind: api.VInt, N: int64(r.Uint64()) >> r.Intn(64)}
	case 2:
		return api.Value{Kind: api.VCx, Z: complex(r.NormFloat64(), math.Ldexp(r.Float64()+0.1, r.Intn(2000)-1000))}
	case 3:
		b := make([]byte, r.Intn(12))
		r.Read(b)
		return api.Value{Kind: api.VText, S: string(b)}
	}
	v := api.Value{Kind: api.VList}
	for range r.Intn(6) * min(lists, 1) {
		v.L = append(v.L, someValue(r, lists-1))
	}
	return v
}

func TestReadOfShow(t *testing.T) {
	r := rand.New(rand.NewSource(2))
	values := okValues()
	for len(values) < 3000 {
		if v := someValue(r, r.Intn(8)); val.Ok(v) {
			values = append(values, v)
		}
	}
	for _, v := range values {
		if got, ok := val.Read(val.Show(v)); !ok || !reflect.DeepEqual(got, v) {
			t.Errorf("Read(Show) of %.80q: %v", val.Show(v), ok)
		}
	}
	for b := range 256 {
		v := api.Value{Kind: api.VText, S: string([]byte{byte(b), 'n', byte(b)})}
		if got, ok := val.Read(val.Show(v)); !ok || !reflect.DeepEqual(got, v) {
			t.Errorf("byte %02x: %v", b, ok)
		}
	}
}

// Promise 2.4.

func TestReadAnswersAreApart(t *testing.T) {
	const s = "[[1, 2], [1, 2], []]"
	v, _ := val.Read(s)
	w, _ := val.Read(s)
	spoil(v.L[0])
	if val.Show(w) != s || val.Show(v.L[1]) != "[1, 2]" {
		t.Error("two lists share memory")
	}
}

func FuzzRead(f *testing.F) {
	for _, c := range shownValues() {
		f.Add(c.s)
	}
	f.Fuzz(func(t *testing.T, s string) {
		v, ok := val.Read(s)
		if ok && (!val.Ok(v) || val.Show(v) != s) {
			t.Errorf("Read(%q) = %v", s, v)
		}
		if !ok && !reflect.DeepEqual(v, api.Value{}) {
			t.Errorf("Read(%q) tells a value beside false", s)
		}
	})
}
