package svm_test

import (
	"slices"
	"strings"
	"testing"

	"ratline/api"
	"ratline/val"
)

// Promise 9.1: the greatest values, and what is greater.

func text(n int) api.Value { return val.Text(strings.Repeat("x", n)) }

func listOf(n int) api.Value { return val.List(slices.Repeat(values(val.Int(5)), n)) }

func deepList(n int) api.Value {
	v := val.Int(1)
	for range n {
		v = val.List(values(v))
	}
	return v
}

// expectMade asks that code, which makes a value that is not empty of those constants, makes it, or, if it may not be, ends with RBig.
func expectMade(t *testing.T, may bool, consts []api.Value, l ...api.SIns) {
	t.Helper()
	seven := len(consts)
	l = row(code(konst(seven), out()), l, code(un(api.ONot), out(), konst(seven), ret()))
	want := "7 = nil 4"
	if may {
		want = "7 0 = 7 0"
	}
	expect(t, program(append(consts, val.Int(7)), l...), 9, want)
}

func TestGreatestTexts(t *testing.T) {
	for n := 997; n < 1003; n++ {
		for _, a := range []int{0, 1, 2, 3, 500, 997, 998, 999} {
			if b := n - a; b >= 0 && b <= 999 {
				expectMade(t, n <= 999, values(text(a), text(b)), konst(0), konst(1), bin(api.OAdd))
			}
		}
	}
	expect(t, program(values(text(500), text(499)), konst(0), konst(1), bin(api.OAdd), out(), konst(0), konst(0), bin(api.OAdd), ret()), 9, val.Show(text(999))+" = nil 4")
	expectSource(t, "fn main() { let s = \"x\"; while len(s) < 999 { s = s + \"y\"; } print len(s); s = s + \"\"; print len(s); s = s + \"z\"; print 1; }", 2000, strings.Repeat("t1 ", 998)+"999 999 = nil 4")
}

func TestGreatestLists(t *testing.T) {
	for n := 997; n < 1003; n++ {
		for _, a := range []int{0, 1, 2, 3, 500, 997, 998, 999} {
			if b := n - a; b >= 0 && b <= 999 {
				expectMade(t, n <= 999, values(listOf(a), listOf(b)), konst(0), konst(1), bin(api.OAdd))
			}
		}
	}
	expectMade(t, true, values(listOf(998), val.Nil()), konst(0), konst(1), bin(api.OPush))
	expectMade(t, false, values(listOf(999), val.Nil()), konst(0), konst(1), bin(api.OPush))
	expectMade(t, true, values(listOf(500), text(498)), konst(0), konst(1), bin(api.OPush))
	expectMade(t, false, values(listOf(500), text(499)), konst(0), konst(1), bin(api.OPush))
	expectSource(t, "fn main() { let l = []; while 1 { l = push(l, nil); if len(l) > 998 { print len(l); } } }", 2000, strings.Repeat("t1 ", 998)+"999 t1 = nil 4")
}

// SList: the Size of the whole is 1 and the Sizes of the values.
func TestListsOfAGreatSize(t *testing.T) {
	for _, c := range []struct {
		may  bool
		made []api.Value
	}{
		{true, values(text(998))}, {false, values(text(999))}, {true, values(listOf(998))}, {false, values(listOf(999))},
		{true, values(text(500), text(497))}, {false, values(text(500), text(498))}, {true, values(text(997), val.Nil())}, {false, values(text(998), val.Nil())}, {true, values(val.Nil(), text(997))}, {false, values(val.Nil(), text(998))}, {true, values(listOf(400), text(300), listOf(296))}, {false, values(listOf(400), text(300), listOf(297))}, {false, values(listOf(999), listOf(999), listOf(999))},
		{true, append(slices.Repeat(values(text(14)), 63), text(53))}, {false, append(slices.Repeat(values(text(14)), 63), text(54))},
	} {
		var l []api.SIns
		for k := range c.made {
			l = append(l, konst(k))
		}
		expectMade(t, c.may, c.made, append(l, list(len(l)))...)
	}
}

// No more than 24 lists within one another.
func TestDeepestLists(t *testing.T) {
	for deep := 1; deep < 25; deep++ {
		may := deep < 24
		expectMade(t, may, values(deepList(deep)), konst(0), list(1))
		expectMade(t, may, values(deepList(deep), val.Nil()), konst(1), konst(0), konst(1), list(3))
		expectMade(t, may, values(val.List(nil), deepList(deep)), konst(0), konst(1), bin(api.OPush))
		expectMade(t, true, values(deepList(deep), deepList(24)), konst(0), konst(1), bin(api.OAdd))
	}
	expectSource(t, "fn main() { let l = []; while 1 { l = [l]; } }", 100, strings.Repeat("t1 ", 23)+"= nil 4")
	expectSource(t, "fn main() { let l = nil; while 1 { l = [1, l]; } }", 100, strings.Repeat("t1 ", 24)+"= nil 4")
}

// The greatest function: 1,000 instructions, 64 locals.
func TestGreatestFunction(t *testing.T) {
	var l []api.SIns
	for k := range 249 {
		l = append(l, load(k%64), konst(0), bin(api.OEq), store((k+1)%64))
	}
	l = append(l, load(249%64), out(), konst(0), ret())
	p := api.Prog{Fns: []api.SFn{{Locals: 64, Consts: values(val.Nil()), Code: l}}}
	// each local is told whether the one ahead of it is nil: 1, and from then on 0
	expect(t, p, 1, "0 = nil 0")
	p.Fns[0].Code[len(l)-4] = load(0)
	expect(t, p, 1, "0 = nil 0")
	p.Fns[0].Code = append(row(l[:4], slices.Repeat(code(tick(1)), 992)), load(1), out(), load(63), ret())
	expect(t, p, 993, strings.Repeat("t1 ", 992)+"1 = nil 0")
}
