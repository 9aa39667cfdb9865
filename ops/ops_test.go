package ops_test

import (
	"math"
	"reflect"
	"strings"
	"testing"

	"ratline/api"
	"ratline/ops"
	"ratline/val"
)

// answer is what one call tells.
type answer struct {
	v api.Value
	e api.Run
}

func of(v api.Value, e api.Run) answer {
	return answer{v, e}
}

func well(v api.Value) answer {
	return answer{v, api.ROK}
}

func failing(e api.Run) answer {
	return answer{e: e}
}

func expect(t *testing.T, what string, got, want answer) {
	t.Helper()
	if !reflect.DeepEqual(got, want) {
		t.Errorf("%s: %s, %d, want %s, %d", what, val.Show(got.v), got.e, val.Show(want.v), want.e)
	}
}

func text(bytes int) api.Value {
	return api.Value{Kind: api.VText, S: strings.Repeat("x", bytes)}
}

func list(l ...api.Value) api.Value {
	return api.Value{Kind: api.VList, L: l}
}

// nested is an empty list and others around it, that many in all.
func nested(lists int) api.Value {
	v := list()
	for range lists - 1 {
		v = list(v)
	}
	return v
}

// sounds are values that are Ok, of every kind.
func sounds() []api.Value {
	return []api.Value{
		val.Nil(),
		val.Int(0), val.Int(1), val.Int(-1), val.Int(7), val.Int(math.MaxInt64), val.Int(math.MinInt64),
		val.Cx(0), val.Cx(1), val.Cx(-1i), val.Cx(complex(0.5, -2)),
		val.Cx(complex(math.MaxFloat64, math.MaxFloat64)), val.Cx(complex(-math.SmallestNonzeroFloat64, 0)),
		val.Text(""), val.Text("ab"), val.Text("\xff\n\""), text(999),
		list(), list(val.Int(1), val.Text("a"), list(val.Cx(1i), val.Nil())), list(make([]api.Value, 999)...), list(nested(23), val.Int(5)), nested(24),
		{Kind: api.VInt, N: 3, Z: complex(math.Copysign(0, -1), 0), L: []api.Value{}},
	}
}

// wrongs are values that are not Ok.
func wrongs() []api.Value {
	itself := make([]api.Value, 2)
	itself[0] = list(itself...)
	itself[1] = list(itself...)
	return []api.Value{
		{Kind: -1}, {Kind: 5}, {Kind: math.MaxInt}, {Kind: math.MinInt},
		{N: 1}, {Kind: api.VInt, N: 1, S: "x"}, {Kind: api.VInt, N: 1, Z: 1}, {Kind: api.VInt, N: 1, L: itself},
		{Kind: api.VCx, Z: complex(math.NaN(), 0)}, {Kind: api.VCx, Z: complex(0, math.Inf(-1))}, {Kind: api.VCx, Z: complex(math.Copysign(0, -1), 1)}, {Kind: api.VCx, Z: 1, N: 1},
		text(1000), text(1 << 20), {Kind: api.VText, S: "x", N: 1},
		list(make([]api.Value, 1000)...), list(make([]api.Value, 1<<20)...), list(text(999)), nested(25), nested(1000), list(api.Value{Kind: 9}), list(itself...), {Kind: api.VList, S: "x"},
	}
}

// noOps are numbers that are no op.
func noOps() []int {
	return []int{math.MinInt, -32, -20, -14, -1, 0, 21, 22, 32, 33, 64 + api.OAdd, 256 + api.OEq, math.MaxInt}
}

// Promise 3.3.

func TestAboutOps(t *testing.T) {
	names := strings.Fields("+ - * / % == != < <= > >= [] push cx - ! len re im conj")
	for i, name := range names {
		op, arity := i+1, 2
		if op > 14 {
			arity = 1
		}
		if ops.Name(op) != name || ops.Arity(op) != arity {
			t.Errorf("%d: %q of %d, want %q of %d", op, ops.Name(op), ops.Arity(op), name, arity)
		}
		if total := op == 6 || op == 7 || op == 16; ops.Total(op) != total {
			t.Errorf("Total(%d) = %v", op, !total)
		}
	}
	for _, op := range noOps() {
		if ops.Name(op) != "" || ops.Arity(op) != 0 || ops.Total(op) {
			t.Errorf("%d: %q of %d, %v", op, ops.Name(op), ops.Arity(op), ops.Total(op))
		}
	}
}

// An op is Total just if it takes all that there is.
func TestTotalOpsNeverErr(t *testing.T) {
	all := append(sounds(), wrongs()...)
	for op := 1; op <= 20; op++ {
		errs := false
		for _, a := range all {
			if ops.Arity(op) == 1 {
				_, e := ops.Unary(op, a)
				errs = errs || e != api.ROK
				continue
			}
			for _, b := range all {
				_, e := ops.Binary(op, a, b)
				errs = errs || e != api.ROK
			}
		}
		if ops.Total(op) == errs {
			t.Errorf("op %d: Total is %v, it errs: %v", op, ops.Total(op), errs)
		}
	}
}

// Promises 3.4 and 3.5. (Every test here calls with what is wrong too; a call that does not end is stopped by the tests' own bound of time.)

// sane holds of each answer: it is Ok, and nothing stands beside an error.
func sane(t *testing.T, op int, got, again answer) {
	t.Helper()
	if !val.Ok(got.v) {
		t.Errorf("op %d answers a value of kind %d that is not Ok", op, got.v.Kind)
	}
	if got.e != api.ROK && !reflect.DeepEqual(got.v, api.Value{}) {
		t.Errorf("op %d: %s beside error %d", op, val.Show(got.v), got.e)
	}
	if got.e < api.ROK || got.e > api.RRange {
		t.Errorf("op %d: error %d", op, got.e)
	}
	if !reflect.DeepEqual(got, again) {
		t.Errorf("op %d: %s, then %s", op, val.Show(got.v), val.Show(again.v))
	}
}

func TestEveryAnswerIsOk(t *testing.T) {
	all := append(sounds(), wrongs()...)
	numbers := noOps()
	for op := 1; op <= 20; op++ {
		numbers = append(numbers, op)
	}
	for _, op := range numbers {
		for _, a := range all {
			sane(t, op, of(ops.Unary(op, a)), of(ops.Unary(op, a)))
			for _, b := range all {
				sane(t, op, of(ops.Binary(op, a, b)), of(ops.Binary(op, a, b)))
			}
		}
	}
}

// What an unused field may hold of a value that is Ok is not handed on.
func TestUnusedFieldsAreZero(t *testing.T) {
	minus := complex(math.Copysign(0, -1), 0)
	five := api.Value{Kind: api.VInt, N: 5, Z: minus, L: make([]api.Value, 0, 2)}
	signs := func(v api.Value) bool { return math.Signbit(real(v.Z)) || v.L != nil }
	for what, got := range map[string]answer{
		"conj": of(ops.Unary(api.OConj, five)),
		"get":  of(ops.Binary(api.OGet, list(five), val.Int(0))),
	} {
		if expect(t, what, got, well(val.Int(5))); signs(got.v) {
			t.Errorf("%s: %v", what, got.v)
		}
	}
	for what, got := range map[string]answer{
		"push":  of(ops.Binary(api.OPush, list(), five)),
		"add":   of(ops.Binary(api.OAdd, list(five), list())),
		"added": of(ops.Binary(api.OAdd, list(), list(five))),
	} {
		if expect(t, what, got, well(list(val.Int(5)))); signs(got.v.L[0]) {
			t.Errorf("%s: %v", what, got.v)
		}
	}
}

// spoil writes into all lists of v and the spare room behind them.
func spoil(v api.Value) {
	for i := range v.L {
		spoil(v.L[i])
	}
	l := v.L[:cap(v.L)]
	for i := range l {
		l[i] = api.Value{Kind: 77}
	}
}

func TestNothingIsSharedOrChanged(t *testing.T) {
	room := func() []api.Value {
		inner := append(make([]api.Value, 0, 4), val.Int(1), list(val.Text("a")))
		l := make([]api.Value, 6)
		l[0], l[1], l[2] = list(inner...), list(inner...), val.Int(2)
		l[3], l[4], l[5] = val.Int(7), val.Text("spare"), list(val.Int(8))
		return l
	}
	for op := 1; op <= 20; op++ {
		for _, other := range []api.Value{val.Int(0), val.Int(1), val.Int(2), list(val.Int(3)), text(2), {Kind: 9}} {
			a, b := room(), room()
			left, right := list(a[:3]...), list(b[:3]...)
			for _, v := range []answer{
				of(ops.Unary(op, left)),
				of(ops.Binary(op, left, right)),
				of(ops.Binary(op, left, other)),
				of(ops.Binary(op, other, right)),
			} {
				spoil(v.v)
			}
			if !reflect.DeepEqual(a, room()) || !reflect.DeepEqual(b, room()) {
				t.Fatalf("op %d changes what it was given, or shares it", op)
			}
		}
	}
}

// No two lists of one answer share memory, though those handed in were one.
func TestListsOfAnAnswerAreApart(t *testing.T) {
	one := list(list(val.Int(1)))
	for what, got := range map[string]answer{
		"add":  of(ops.Binary(api.OAdd, one, one)),
		"push": of(ops.Binary(api.OPush, one, one.L[0])),
	} {
		got.v.L[0].L[0] = val.Int(2)
		expect(t, what, got, well(list(list(val.Int(2)), list(val.Int(1)))))
	}
}
