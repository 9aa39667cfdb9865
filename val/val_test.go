package val_test

import (
	"math"
	"reflect"
	"strings"
	"testing"

	"ratline/api"
	"ratline/val"
)

var (
	inf   = math.Inf(1)
	nan   = math.NaN()
	minus = math.Copysign(0, -1)
)

// rawText and rawList make values by hand, so that no call under test stands behind what it is tested with.
func rawText(bytes int) api.Value {
	return api.Value{Kind: api.VText, S: strings.Repeat("x", bytes)}
}

func rawList(l ...api.Value) api.Value {
	return api.Value{Kind: api.VList, L: l}
}

// within puts v into so many lists, each the only value of the next.
func within(lists int, v api.Value) api.Value {
	for range lists {
		v = rawList(v)
	}
	return v
}

// nested is an empty list and others around it, that many in all.
func nested(lists int) api.Value {
	return within(lists-1, rawList())
}

// holdsItself is a list that is its own first value.
func holdsItself() api.Value {
	l := make([]api.Value, 2)
	l[0] = api.Value{Kind: api.VList, L: l}
	return l[0]
}

// bushy is small in memory, but gone through value by value it never ends.
func bushy() api.Value {
	v := rawList()
	for range 40 {
		l := make([]api.Value, 1000)
		for i := range l {
			l[i] = v
		}
		v = rawList(l...)
	}
	return v
}

func okValues() []api.Value {
	return []api.Value{
		{},
		{Kind: api.VInt},
		{Kind: api.VInt, N: 1},
		{Kind: api.VInt, N: -1},
		{Kind: api.VInt, N: math.MinInt64},
		{Kind: api.VInt, N: math.MaxInt64},
		{Kind: api.VCx},
		{Kind: api.VCx, Z: 1},
		{Kind: api.VCx, Z: 1i},
		{Kind: api.VCx, Z: complex(math.MaxFloat64, -math.SmallestNonzeroFloat64)},
		{Kind: api.VText},
		{Kind: api.VText, S: "0"},
		{Kind: api.VText, S: "nil"},
		{Kind: api.VText, S: "a\"b\\c\nd"},
		{Kind: api.VText, S: "\x00\xff\xc3, [é]"},
		rawText(999),
		rawList(),
		rawList(api.Value{}),
		rawList(api.Value{}, api.Value{}),
		rawList(rawList()),
		rawList(api.Value{Kind: api.VInt, N: 1}, api.Value{Kind: api.VText, S: "a"}),
		rawList(api.Value{Kind: api.VText, S: "a"}, api.Value{Kind: api.VInt, N: 1}),
		rawList(rawText(998)),
		rawList(rawText(499), rawText(498)),
		rawList(make([]api.Value, 999)...),
		nested(24),
		within(24, api.Value{Kind: api.VInt, N: 7}),
		within(24, rawText(975)),
	}
}

// plainWrongs are not Ok for what a single field of theirs says.
func plainWrongs() []api.Value {
	return []api.Value{
		{Kind: -1},
		{Kind: 5},
		{Kind: math.MaxInt},
		{Kind: math.MinInt},
		{N: 1},
		{Z: 1},
		{Z: complex(0, nan)},
		{S: "x"},
		{L: make([]api.Value, 1)},
		{Kind: api.VInt, Z: 1i},
		{Kind: api.VInt, S: "x"},
		{Kind: api.VInt, L: make([]api.Value, 1)},
		{Kind: api.VCx, N: 1},
		{Kind: api.VCx, S: "x"},
		{Kind: api.VCx, L: make([]api.Value, 1)},
		{Kind: api.VCx, Z: complex(minus, 0)},
		{Kind: api.VCx, Z: complex(1, minus)},
		{Kind: api.VCx, Z: complex(inf, 0)},
		{Kind: api.VCx, Z: complex(0, -inf)},
		{Kind: api.VCx, Z: complex(nan, 0)},
		{Kind: api.VText, N: 1},
		{Kind: api.VText, Z: 1},
		{Kind: api.VText, S: "x", L: make([]api.Value, 1)},
		{Kind: api.VList, N: -1},
		{Kind: api.VList, Z: 1i},
		{Kind: api.VList, S: "x"},
	}
}

func wrongs() []api.Value {
	l := []api.Value{
		rawText(1000),
		rawText(100000),
		nested(25),
		nested(100000),
		within(25, api.Value{}),
		within(24, rawText(976)),
		rawList(rawText(999)),
		rawList(rawText(499), rawText(499)),
		rawList(make([]api.Value, 1000)...),
		rawList(make([]api.Value, 1<<20)...),
		rawList(api.Value{}, nested(24)),
		holdsItself(),
		bushy(),
		{Kind: api.VInt, L: holdsItself().L},
	}
	for _, v := range plainWrongs() {
		l = append(l, v, rawList(v), rawList(api.Value{}, rawList(api.Value{}, v)))
	}
	return l
}

// Promise 2.1.

func TestOk(t *testing.T) {
	for i, v := range okValues() {
		if !val.Ok(v) {
			t.Errorf("value %d of kind %d is not Ok", i, v.Kind)
		}
	}
	for i, v := range wrongs() {
		if val.Ok(v) {
			t.Errorf("wrong value %d of kind %d is Ok", i, v.Kind)
		}
	}
}

func TestOkOfUnusedNoughts(t *testing.T) {
	none := make([]api.Value, 0, 3)
	for _, z := range []complex128{0, complex(minus, 0), complex(0, minus), complex(minus, minus)} {
		for _, v := range []api.Value{
			{Z: z, L: none},
			{Kind: api.VInt, N: 3, Z: z, L: none},
			{Kind: api.VCx, Z: 3, L: none},
			{Kind: api.VText, S: "a", Z: z, L: none},
			{Kind: api.VList, Z: z, L: []api.Value{{Kind: api.VInt, Z: z}}},
		} {
			if !val.Ok(v) {
				t.Errorf("%v is not Ok", v)
			}
			c := val.Copy(v)
			if !val.Same(v, c) || math.Signbit(real(c.Z)) || math.Signbit(imag(c.Z)) || v.Kind != api.VList && c.L != nil {
				t.Errorf("Copy(%v) = %v", v, c)
			}
		}
	}
}

func TestSize(t *testing.T) {
	for i, c := range []struct {
		v    api.Value
		want int
	}{
		{api.Value{}, 1},
		{api.Value{Kind: api.VInt, N: math.MinInt64}, 1},
		{api.Value{Kind: api.VCx, Z: 1}, 1},
		{rawText(0), 1},
		{rawText(3), 4},
		{api.Value{Kind: api.VText, S: "é\n"}, 4},
		{rawText(999), 1000},
		{rawText(1000), 1001},
		{rawText(5000), 1001},
		{rawList(), 1},
		{rawList(api.Value{}, api.Value{Kind: api.VInt}, rawText(2)), 6},
		{rawList(rawList(rawText(1)), rawList()), 5},
		{rawList(make([]api.Value, 999)...), 1000},
		{rawList(make([]api.Value, 1000)...), 1001},
		{rawList(make([]api.Value, 5000)...), 1001},
		{rawList(rawText(499), rawText(498)), 1000},
		{rawList(rawText(499), rawText(499)), 1001},
		{rawList(rawText(700), rawText(700), rawText(700)), 1001},
		{nested(24), 24},
		{nested(25), 1001},
		{within(24, api.Value{}), 25},
		{within(25, api.Value{}), 1001},
		{rawList(api.Value{}, nested(23)), 25},
		{rawList(api.Value{}, nested(24), api.Value{}), 1001},
		{holdsItself(), 1001},
		{bushy(), 1001},
		// Size looks at what is not Ok as it stands.
		{api.Value{Kind: 9}, 1},
		{api.Value{Kind: -1, S: "abc", L: make([]api.Value, 3)}, 1},
		{api.Value{Kind: api.VInt, S: "abc", L: make([]api.Value, 3)}, 1},
		{api.Value{Kind: api.VText, S: "abc", L: make([]api.Value, 3)}, 4},
		{api.Value{Kind: api.VList, S: "abc", L: make([]api.Value, 3)}, 4},
		{rawList(api.Value{Kind: 9}, api.Value{N: 4}), 3},
		{api.Value{Kind: api.VCx, Z: complex(nan, inf)}, 1},
	} {
		if got := val.Size(c.v); got != c.want {
			t.Errorf("%d: Size = %d, want %d", i, got, c.want)
		}
	}
}

func TestMakers(t *testing.T) {
	one := api.Value{Kind: api.VInt, N: 1}
	for i, c := range []struct{ got, want api.Value }{
		{val.Nil(), api.Value{}},
		{val.Int(0), api.Value{Kind: api.VInt}},
		{val.Int(-5), api.Value{Kind: api.VInt, N: -5}},
		{val.Int(math.MinInt64), api.Value{Kind: api.VInt, N: math.MinInt64}},
		{val.Cx(0), api.Value{Kind: api.VCx}},
		{val.Cx(complex(1, -2)), api.Value{Kind: api.VCx, Z: complex(1, -2)}},
		{val.Cx(complex(inf, 0)), api.Value{}},
		{val.Cx(complex(0, nan)), api.Value{}},
		{val.Cx(complex(minus, 0)), api.Value{}},
		{val.Cx(complex(1, minus)), api.Value{}},
		{val.Text(""), api.Value{Kind: api.VText}},
		{val.Text("a\n\xff"), api.Value{Kind: api.VText, S: "a\n\xff"}},
		{val.Text(strings.Repeat("x", 999)), rawText(999)},
		{val.Text(strings.Repeat("x", 1000)), api.Value{}},
		{val.Text(strings.Repeat("x", 1<<20)), api.Value{}},
		{val.List(nil), api.Value{Kind: api.VList}},
		{val.List([]api.Value{}), api.Value{Kind: api.VList}},
		{val.List([]api.Value{one, {}}), rawList(one, api.Value{})},
		{val.List([]api.Value{rawText(998)}), rawList(rawText(998))},
		{val.List([]api.Value{rawText(999)}), api.Value{}},
		{val.List(make([]api.Value, 999)), rawList(make([]api.Value, 999)...)},
		{val.List(make([]api.Value, 1000)), api.Value{}},
		{val.List(make([]api.Value, 1<<20)), api.Value{}},
		{val.List([]api.Value{nested(23)}), nested(24)},
		{val.List([]api.Value{one, nested(24)}), api.Value{}},
	} {
		if !reflect.DeepEqual(c.got, c.want) {
			t.Errorf("%d: a value of kind %d, want kind %d", i, c.got.Kind, c.want.Kind)
		}
	}
}

// What is not Ok in List's l is VNil ahead of the whole being measured.
func TestListOfWrongs(t *testing.T) {
	two := api.Value{Kind: api.VInt, N: 2}
	for i, v := range wrongs() {
		if got := val.List([]api.Value{v, two, v}); !reflect.DeepEqual(got, rawList(api.Value{}, two, api.Value{})) {
			t.Errorf("%d: a list of kind %d", i, got.Kind)
		}
	}
	many := make([]api.Value, 999)
	for i := range many {
		many[i] = rawText(1000)
	}
	if got := val.List(many); val.Size(got) != 1000 {
		t.Errorf("Size %d", val.Size(got))
	}
}

func TestWrongsAreAsNil(t *testing.T) {
	other := rawText(1000)
	for i, v := range wrongs() {
		if !val.Same(v, val.Nil()) || !val.Same(val.Nil(), v) || !val.Same(v, other) {
			t.Errorf("%d: not the Same as VNil", i)
		}
		if val.Same(v, val.Int(0)) || val.Same(val.List(nil), v) {
			t.Errorf("%d: the Same as another", i)
		}
		if val.Truth(v) {
			t.Errorf("%d: true", i)
		}
		if s := val.Show(v); s != "nil" {
			t.Errorf("%d: Show is %d bytes long", i, len(s))
		}
		if c := val.Copy(v); !reflect.DeepEqual(c, api.Value{}) {
			t.Errorf("%d: Copy is of kind %d", i, c.Kind)
		}
	}
}

// Promise 2.2.

func TestSame(t *testing.T) {
	as, bs := okValues(), okValues()
	for i, a := range as {
		for j, b := range bs {
			if val.Same(a, b) != (i == j) {
				t.Errorf("Same of values %d and %d is %v", i, j, i != j)
			}
		}
	}
	if !val.Same(rawList(val.Int(1), nested(3)), rawList(val.Int(1), nested(3))) || val.Same(rawList(val.Int(1), nested(3)), rawList(val.Int(1), nested(4))) {
		t.Error("lists within lists")
	}
}

func TestTruth(t *testing.T) {
	falses := []api.Value{{}, {Kind: api.VInt}, {Kind: api.VCx}, {Kind: api.VText}, {Kind: api.VList}, {Kind: api.VList, L: []api.Value{}}, {Kind: api.VInt, Z: complex(minus, minus)}}
	for _, v := range falses {
		if val.Truth(v) {
			t.Errorf("%v is true", v)
		}
	}
	trues := []api.Value{val.Int(1), val.Int(-1), val.Int(math.MinInt64), val.Cx(1), val.Cx(1i), val.Cx(-1i), val.Text("0"), val.Text("\x00"), val.Text(" "), rawList(api.Value{}), nested(2)}
	for _, v := range trues {
		if !val.Truth(v) {
			t.Errorf("%v is false", v)
		}
	}
}

func TestCopy(t *testing.T) {
	for i, v := range okValues() {
		if !reflect.DeepEqual(val.Copy(v), v) {
			t.Errorf("the copy of value %d is another", i)
		}
	}
}

// Promise 2.4. (Every test here calls with what is wrong; a call that does not end is stopped by the tests' own bound of time.)

// spoil writes into all lists of v and the spare room behind them.
func spoil(v api.Value) {
	for i := range v.L {
		spoil(v.L[i])
	}
	l := v.L[:cap(v.L)]
	for i := range l {
		l[i] = api.Value{Kind: 77}
	}
}

func TestNothingIsShared(t *testing.T) {
	fresh := func() []api.Value {
		inner := rawList(val.Int(1), val.Text("a"), rawList())
		return append(make([]api.Value, 0, 8), inner, rawList(inner), inner)
	}
	in, want := fresh(), fresh()
	for name, answer := range map[string]api.Value{"List": val.List(in), "Copy": val.Copy(rawList(in...)), "List of one": val.List(in[:1])} {
		spoil(answer)
		if !reflect.DeepEqual(in, want) {
			t.Fatalf("%s shares with what was handed in", name)
		}
	}
	list, copied := val.List(in), val.Copy(api.Value{Kind: api.VList, L: in})
	for i := range in {
		spoil(in[i])
	}
	if !reflect.DeepEqual(list, rawList(want...)) || !reflect.DeepEqual(copied, rawList(want...)) {
		t.Error("the answer changed with what was handed in")
	}
}

// No two lists of one answer share either, though those handed in did.
func TestListsOfAnAnswerAreApart(t *testing.T) {
	inner := rawList(val.Int(1))
	for _, v := range []api.Value{val.List([]api.Value{inner, inner}), val.Copy(rawList(inner, inner))} {
		v.L[0].L[0] = val.Int(2)
		if !val.Same(v, rawList(rawList(val.Int(2)), rawList(val.Int(1)))) {
			t.Error(val.Show(v))
		}
	}
}

func TestNothingIsChanged(t *testing.T) {
	fresh := func() []api.Value {
		l := make([]api.Value, 5)
		l[0], l[1], l[2] = rawList(val.Int(1), api.Value{Kind: 9}), val.Int(2), nested(25)
		l[3], l[4] = val.Int(7), val.Text("spare")
		return l
	}
	l := fresh()
	v := api.Value{Kind: api.VList, L: l[:3]}
	val.List(l[:3])
	val.Ok(v)
	val.Size(v)
	val.Same(v, v)
	val.Truth(v)
	val.Show(v)
	val.Copy(v)
	if !reflect.DeepEqual(l, fresh()) {
		t.Error("what was handed in is changed, or the room behind it")
	}
}
