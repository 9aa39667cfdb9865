package hand

import (
	"slices"
	"strconv"
	"strings"
	"sync"

	"ratline/api"
	"ratline/sim"
)

// Pass makes another function of one.
type Pass = func(api.RFn) api.RFn

// Words is f in a word a block: a letter for each Ins, and one for its end; - where there is none.
func Words(f api.RFn) string {
	words := make([]string, len(f.Blocks))
	for n, b := range f.Blocks {
		for _, i := range b.Ins {
			words[n] += letter("-kmbucotl", i.Op)
		}
		words[n] += letter("-JBR", b.Term.Kind)
	}
	return strings.Join(words, " ")
}

// letter is the one at place n; the first one, if there is none.
func letter(letters string, n int) string {
	if n < 0 || n >= len(letters) {
		n = 0
	}
	return letters[n : n+1]
}

// Upto are the numbers from 0 on, n of them.
func Upto(n int) []int {
	l := make([]int, n)
	for k := range l {
		l[k] = k
	}
	return l
}

// Row has so many blocks, of which the one that is come to next stands step behind, round the end. Each is made of its place on the way and of where the next one stands; the last one's next is the first.
func Row(count, step int, block func(k, next int) api.RBlock) []api.RBlock {
	l := make([]api.RBlock, count)
	for k := range l {
		l[k*step%count] = block(k, (k+1)*step%count)
	}
	return l
}

// Others are p with all of its functions passed, by each pass, and with one of them alone.
func Others(p api.RProg, passes ...Pass) []api.RProg {
	var l []api.RProg
	for _, pass := range passes {
		l = append(l, Mapped(p, pass))
		for n, f := range p.Fns {
			one := p
			one.Fns = slices.Clone(p.Fns)
			one.Fns[n] = pass(f)
			l = append(l, one)
		}
	}
	return l
}

// Tried counts programs, and their runs by how they ended.
type Tried struct{ Programs, Runs, Ends, Errs, Fuel int }

// Otherwise runs p, if it is sound, with fuels that stand ever further apart, and with all, until it ends with fuel left, and tells of the first one of others that is not sound or tells something else; "" if there is none.
func (n *Tried) Otherwise(p api.RProg, others ...api.RProg) string {
	if sim.Check(p) != api.OK {
		return ""
	}
	n.Programs++
	for _, fuel := range []int{0, 1, 2, 3, 4, 5, 6, 8, 11, 15, 20, 29, 100, -1} {
		want, _ := sim.Run(p, fuel)
		n.count(want.E)
		for k, q := range others {
			if x, e := sim.Run(q, fuel); e != api.OK || !Alike(x, want) {
				return "the program " + strconv.Itoa(k) + " of others, with fuel " + strconv.Itoa(fuel) + ", " + e.Error() + "\n" + code(q) + "\nof\n" + code(p)
			}
		}
		if want.E != api.RFuel {
			break
		}
	}
	return ""
}

func (n *Tried) count(e api.Run) {
	n.Runs++
	switch e {
	case api.ROK:
		n.Ends++
	case api.RFuel:
		n.Fuel++
	default:
		n.Errs++
	}
}

func code(p api.RProg) string {
	s := "main " + strconv.Itoa(p.Main)
	for _, f := range p.Fns {
		s += "\nfn " + strconv.Itoa(f.Params) + " " + strconv.Itoa(f.Regs) + "\n" + sim.Text(f)
	}
	return s
}

// Same tells whether two things are deeply the same. (Tests hand in how to ask that.)
type Same = func(a, b any) bool

// Touched tells what passes do to the memory of f, or of what they answered, that they may not; "" if nothing.
func Touched(f api.RFn, same Same, passes ...Pass) string {
	return TouchedAll(alone(f), same, mapping(passes)...)
}

// Unlike tells whether a pass answers f something else when several call at once, or when room stands behind the lists of f.
func Unlike(f api.RFn, same Same, passes ...Pass) bool {
	return UnlikeAll(alone(f), same, mapping(passes)...)
}

// Change makes another program of one.
type Change = func(api.RProg) api.RProg

func alone(f api.RFn) api.RProg { return api.RProg{Fns: []api.RFn{f}} }

// mapping are passes, each over all functions of a program.
func mapping(passes []Pass) []Change {
	l := make([]Change, len(passes))
	for n, pass := range passes {
		l[n] = func(p api.RProg) api.RProg { return Mapped(p, pass) }
	}
	return l
}

// TouchedAll is Touched of a program.
func TouchedAll(p api.RProg, same Same, changes ...Change) string {
	full, was := fullProg(p), everythingIn(fullProg(p))
	first, second := answers(full, changes), answers(full, changes)
	told := plains(answers(full, changes))
	switch {
	case !same(everythingIn(full), was):
		return "what was handed in is changed"
	case Shares(allFns(first)...): // it has written into all of them
		return "two lists of answers share memory"
	case !same(everythingIn(full), was):
		return "an answer shares memory with what was handed in"
	case !same(plains(second), told):
		return "two answers share memory"
	case !same(plains(answers(full, changes)), told):
		return "what was answered is kept"
	case Shares(allFns(append(second, full))...):
		return "two lists share memory"
	}
	return ""
}

// UnlikeAll is Unlike of a program.
func UnlikeAll(p api.RProg, same Same, changes ...Change) bool {
	told := plains(answers(p, changes))
	var seen [4]bool
	var all sync.WaitGroup
	for n := range seen {
		all.Go(func() {
			q := p
			if n%2 == 1 {
				q = fullProg(p)
			}
			seen[n] = same(plains(answers(q, changes)), told)
		})
	}
	all.Wait()
	return seen != [...]bool{true, true, true, true}
}

// fullProg is p with room behind all of its lists.
func fullProg(p api.RProg) api.RProg {
	p = Mapped(p, Full)
	p.Fns = WithRoom(p.Fns, Fn(1, 2, Block(Ret(0))))
	return p
}

// everythingIn is all that p has, spare room too, as one list.
func everythingIn(p api.RProg) []any {
	l := []any{p.Main, p.Fns[:cap(p.Fns)]}
	for _, f := range p.Fns {
		l = append(l, Everything(f)...)
	}
	return l
}

// answers is what changes make of p.
func answers(p api.RProg, changes []Change) []api.RProg {
	l := make([]api.RProg, len(changes))
	for n, change := range changes {
		l[n] = change(p)
	}
	return l
}

func plains(l []api.RProg) []api.RProg {
	all := make([]api.RProg, len(l))
	for n, p := range l {
		all[n] = Mapped(p, Plain)
	}
	return all
}

func allFns(l []api.RProg) []api.RFn {
	var all []api.RFn
	for _, p := range l {
		all = append(all, p.Fns...)
	}
	return all
}
