package gen_test

import (
	"fmt"
	"strings"
	"testing"

	"ratline/api"
	"ratline/gen"
	"ratline/stack"
	"ratline/val"
)

// Promise 8.1, the edges. Those of sources stand in sources; what no source has room for, in trees.

// padded is a row of statements with just so many instructions (not one alone) ahead of those of l.
func padded(instructions int, l ...api.Node) []api.Node {
	var row []api.Node
	if instructions%2 == 1 {
		row, instructions = append(row, do(neg(whole(1)))), instructions-3
	}
	return append(append(row, times(instructions/2, do(whole(1)))...), l...)
}

func TestLongestCode(t *testing.T) {
	expectBound(t, "fn main() {"+strings.Repeat("1;", 499)+"}", true)
	expectBound(t, "fn main() {"+strings.Repeat("1;", 498)+"-1;}", false)
	expectBound(t, "fn main() {"+strings.Repeat("1;", 500)+"}", false)
	expectBound(t, "fn main() {"+strings.Repeat("1;", 1900)+"}", false)
	f := fun("f", []string{"a"})
	for i, c := range []struct {
		n            api.Node
		instructions int
	}{
		{block(), 0}, {block(block(), block(block())), 0}, {do(whole(1)), 2}, {back(), 2}, {out(none()), 2}, {let("x", whole(1)), 2}, {choice(whole(1), block()), 2}, {choice(whole(1), block(), block()), 3}, {while(whole(1), block()), 4}, {while(whole(1), block(stop(), again())), 6}, {do(call("f", whole(1))), 4}, {do(call("len", whole(1))), 3}, {do(call("cx", whole(1), whole(2))), 4}, {do(and(whole(1), whole(2))), 8}, {do(or(whole(1), whole(2))), 10}, {do(list(times(64, whole(1))...)), 66}, {do(add(whole(1), neg(imag(2)))), 5}, {block(let("x", text("a")), set("x", variable("x"))), 4},
	} {
		for _, most := range []int{998, 999, 1000, 1001, 1002, 1003, 1500} {
			main := fun("main", nil, padded(most-2-c.instructions, c.n)...)
			for _, l := range [][]api.Fun{{main, f}, {f, main}, {f, main, fun("g", nil)}} {
				expectTreeBound(t, l, most <= 1000)
				p, _ := gen.Program(l)
				if most <= 1000 && len(p.Fns[p.Main].Code) != most {
					t.Error(i, most, len(p.Fns[p.Main].Code))
				}
			}
		}
	}
	// Each function has its own bound; one that is never called too.
	var long []api.Fun
	for i := range 15 {
		long = append(long, fun(fmt.Sprint("f", i), nil, padded(998)...))
	}
	expectTreeBound(t, append(long, fun("main", nil, padded(998)...)), true)
	expectTreeBound(t, append(long, fun("main", nil, padded(999)...)), false)
	long[3] = fun("f3", nil, padded(999)...)
	expectTreeBound(t, append(long, fun("main", nil)), false)
	// What is not come to counts.
	expectTreeBound(t, inMain(append([]api.Node{back()}, padded(996)...)...), true)
	expectTreeBound(t, inMain(append([]api.Node{back()}, padded(997)...)...), false)
}

// calling are functions f0, f1 .. and, at last, main, with so many calls in all, at most 332 in each.
func calling(calls int) (l []api.Fun) {
	for i := 0; calls > 0; i++ {
		here := min(calls, 332)
		name := fmt.Sprint("f", i)
		if calls -= here; calls == 0 {
			name = "main"
		}
		l = append(l, fun(name, nil, times(here, do(call("main")))...))
	}
	return l
}

func lastTick(f api.SFn) (n int) {
	for _, i := range f.Code {
		if i.Op == api.STick {
			n = i.A
		}
	}
	return n
}

func TestMostTicks(t *testing.T) {
	for _, calls := range []int{4094, 4095, 4096, 4097, 5000} {
		l := calling(calls)
		expectTreeBound(t, l, calls <= 4095)
		if p, e := gen.Program(l); e == api.OK && lastTick(p.Fns[p.Main]) != calls {
			t.Error(calls, lastTick(p.Fns[p.Main]))
		}
	}
	// Numbered on, function by function, in the order in which they stand.
	p, _ := gen.Program(calling(4095))
	ticks := 0
	for _, f := range p.Fns {
		for _, i := range f.Code {
			if i.Op == api.STick {
				if ticks++; i.A != ticks {
					t.Fatal(i.A, ticks)
				}
			}
		}
	}
	if ticks != 4095 {
		t.Error(ticks)
	}
	// Those of loops count as those of calls; functions behind, and what is not come to.
	loop := while(whole(1), block())
	for _, c := range []struct {
		l      []api.Fun
		within bool
	}{
		{append(calling(4094), fun("g", nil, loop)), true}, {append(calling(4095), fun("g", nil, loop)), false}, {append(calling(4094), fun("g", nil, loop, loop)), false}, {append([]api.Fun{fun("g", nil, loop)}, calling(4094)...), true}, {append([]api.Fun{fun("g", nil, loop)}, calling(4095)...), false},
		{append(calling(4094), fun("g", nil, while(whole(1), block(loop)))), false}, {append(calling(4093), fun("g", nil, while(whole(1), block(loop)))), true}, {append(calling(4093), fun("g", nil, while(call("g"), block()))), true}, {append(calling(4094), fun("g", nil, while(call("g"), block()))), false},
		{append(calling(4095), fun("g", nil, back(), loop)), false}, {append(calling(4095), fun("g", nil, do(call("len", whole(1))), out(list()))), true},
	} {
		expectTreeBound(t, c.l, c.within)
	}
}

func ones(n int) string { return "[" + strings.TrimSuffix(strings.Repeat("1,", n), ",") + "]" }

func TestLongestList(t *testing.T) {
	for _, n := range []int{0, 1, 2, 63, 64, 65, 66, 500, 1000} {
		for _, form := range []string{"LIST;", "print LIST;", "return LIST;", "let x = LIST;", "let x = 1; x = LIST;", "if LIST { }", "while LIST { }", "len(LIST);", "-LIST;", "LIST + 1;", "LIST && 1;", "1 || LIST;", "[LIST];", "LIST[0];", "return; LIST;", "if nil { LIST; }"} {
			expectBound(t, "fn main() { "+strings.ReplaceAll(form, "LIST", ones(n))+" }", n <= 64)
		}
		expectBound(t, "fn main() { } fn f(a) { f("+ones(n)+"); }", n <= 64)
	}
	// Where one list is not too long, its parts may be; and many lists together are not one.
	expectBound(t, "fn main() { ["+ones(3)+","+ones(65)+"]; }", false)
	expectBound(t, "fn main() { "+strings.Repeat(ones(64)+";", 14)+" }", true)
	expectBound(t, "fn main() { ["+strings.TrimSuffix(strings.Repeat("[1,1],", 63), ",")+"]; }", true)
	expectCode(t, inMain(do(list(times(64, none())...))), "nil | "+strings.Repeat("const 0, ", 64)+"list 64, pop, const 0, ret")
}

func TestGreatestConstant(t *testing.T) {
	for _, n := range []int{0, 1, 998, 999, 1000, 1001, 3000} {
		for _, form := range []string{"TEXT;", "print TEXT;", "return; TEXT;", "[nil, [TEXT]];", "len(TEXT) && 1;", "let x = TEXT;", "while TEXT { }"} {
			expectBound(t, "fn main() { "+strings.ReplaceAll(form, "TEXT", `"`+strings.Repeat("x", n)+`"`)+" }", n <= 999)
		}
	}
	// Size counts the bytes that the text tells, not those that tell it.
	expectBound(t, `fn main() { "`+strings.Repeat(`\n`, 999)+`"; }`, true)
	expectBound(t, `fn main() { "`+strings.Repeat(`\n`, 1000)+`"; }`, false)
	expectBound(t, `fn main() { "`+strings.Repeat("é", 499)+`"; }`, true)
	expectBound(t, `fn main() { "`+strings.Repeat("é", 500)+`"; }`, false)
	// Each by itself, nowhere together: not even with a nil that is there already.
	long := strings.Repeat("x", 999)
	expectCode(t, inMain(do(text(long)), do(text(long+"")), do(text(long[1:]+"y"))), `"`+long+`" "`+long[1:]+`y" nil | const 0, pop, const 0, pop, const 1, pop, const 2, ret`)
	expectTreeBound(t, inMain(do(none()), do(text(long+"x")), do(none())), false)
	expectTreeBound(t, []api.Fun{fun("f", nil, do(text(long+"x"))), fun("main", nil)}, false)
	expectTreeBound(t, []api.Fun{fun("main", nil), fun("f", nil, do(text(long+"x")))}, false)
	expectTreeBound(t, inMain(do(text(strings.Repeat("x", 1<<24)))), false)
	// Numbers are never too great, nor are many constants.
	expectTreeBound(t, inMain(do(whole(1<<63-1)), do(whole(-1<<63)), do(imag(1<<63-1)), do(imag(-1<<63))), true)
	var many []api.Node
	for i := range 499 {
		many = append(many, out(whole(int64(i))))
	}
	p, e := gen.Program(inMain(many...))
	if e != api.OK || len(p.Fns[0].Consts) != 500 || !val.Same(p.Fns[0].Consts[498], val.Int(498)) || p.Fns[0].Code[998].A != 499 {
		t.Error(e)
	}
}

func TestGreatestHeight(t *testing.T) {
	for n := range 65 {
		k := 64 - n // n values stand there, where k more come; one more than 64 is too high
		ahead := strings.Repeat("1,", n)
		expectBound(t, "fn main() { ["+ahead+ones(max(k, 1))+"]; }", n < 64)
		expectBound(t, "fn main() { ["+ahead+ones(k+1)+"]; }", false)
	}
	for s, within := range map[string]bool{
		ones(64) + " + 1;": true, "1 + " + ones(63) + ";": true, "1 + " + ones(64) + ";": false, "1 + (1 + " + ones(62) + ");": true, "1 + (1 + " + ones(63) + ");": false,
		"-" + ones(64) + ";": true, ones(64) + "[0];": true, "1[" + ones(64) + "];": false, "push(" + ones(64) + ", 1);": true, "push(1, " + ones(63) + ");": true, "push(1, " + ones(64) + ");": false,
		ones(64) + " && " + ones(64) + ";": true, ones(64) + " || " + ones(64) + ";": true, "1 + (" + ones(64) + " && 1);": false, "1 + (" + ones(63) + " && 1);": true, "1 + (1 || " + ones(64) + ");": false, "1 + (1 || " + ones(63) + ");": true,
		"f(" + ones(64) + ", 1);": true, "f(1, " + ones(63) + ");": true, "f(1, " + ones(64) + ");": false, "[" + strings.Repeat("1,", 63) + "f(1, 2)];": false, "[" + strings.Repeat("1,", 62) + "f(1, 2)];": true, "[" + strings.Repeat("1,", 63) + "main()];": true, "[" + strings.Repeat("1,", 63) + "1 && 1];": true, "[" + strings.Repeat("1,", 63) + "-1];": true, "[" + strings.Repeat("1,", 63) + "[]];": true, "[" + strings.Repeat("1,", 63) + "1 + 1];": false,
		"let x = " + ones(64) + "; print x;": true, "if 1 + " + ones(64) + " { }": false, "while 1 + " + ones(64) + " { }": false, "if nil { return 1 + " + ones(64) + "; }": false,
		// stack.Virtual counts what is come to, and that alone
		"return; 1 + " + ones(64) + ";": true, "return 1; if 1 { } else { 1 + " + ones(64) + "; }": true, "while 1 { break; 1 + " + ones(64) + "; }": true, "while 1 { continue; 1 + " + ones(64) + "; }": true, "while 1 { if 1 { break; } 1 + " + ones(64) + "; }": false, "return 1 + " + ones(64) + ";": false,
	} {
		expectBound(t, "fn main() { "+s+" } fn f(a, b) { }", within)
		expectBound(t, "fn f(a, b) { } fn g() { "+s+" } fn main() { }", within)
	}
	// Together with as many locals as there may be.
	locals := ""
	for i := range 64 {
		locals += fmt.Sprint("let x", i, "=1;")
	}
	p, _, _ := gen.Source("fn main() { " + locals + ones(64) + "; }")
	if n, e := stack.Virtual(p, 0); n != 128 || e != api.OK {
		t.Error(n, e)
	}
	expectBound(t, "fn main() { "+locals+" 1 + "+ones(64)+"; }", false)
}
