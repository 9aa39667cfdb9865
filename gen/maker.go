package gen

import (
	"slices"
	"strings"

	"ratline/api"
	"ratline/val"
)

// maker lays the code of one function.
type maker struct {
	code   []api.SIns
	consts []api.Value
	slots  []int // the locals of the names that are still to come, in scope's order
	calls  []int // likewise the numbers of calls
	ticks  int   // how many there are up to here, those of the functions ahead too
	loop   *loop // the innermost one that is open
}

// loop has the jumps out of its rounds that are still to be led.
type loop struct {
	breaks, continues []func()
}

// function is f, whose body can be laid, with so many locals.
func (m *maker) function(f *api.Fun, locals int) api.SFn {
	m.statement(&f.Body)
	m.giveNil()
	m.lay(api.SRet, 0)
	return api.SFn{Name: strings.Clone(f.Name), Params: len(f.Params), Locals: locals, Consts: m.consts, Code: m.code}
}

func (m *maker) lay(op, a int) {
	m.code = append(m.code, api.SIns{Op: op, A: a})
}

// ahead lays a jump whose end is not known yet: what it answers is called where the jump is to lead to.
func (m *maker) ahead(op int) func() {
	at := len(m.code)
	m.lay(op, 0)
	return func() { m.code[at].A = len(m.code) }
}

// land leads jumps to here.
func land(jumps []func()) {
	for _, lead := range jumps {
		lead()
	}
}

func (m *maker) tick() {
	m.ticks++
	m.lay(api.STick, m.ticks)
}

// give lays v's SConst.
func (m *maker) give(v api.Value) {
	at := slices.IndexFunc(m.consts, func(c api.Value) bool { return val.Same(c, v) })
	if at < 0 {
		at = len(m.consts)
		m.consts = append(m.consts, v)
	}
	m.lay(api.SConst, at)
}

func (m *maker) giveNil() {
	m.give(val.Nil())
}

// slot is the local of the name that is come to.
func (m *maker) slot() int {
	return next(&m.slots)
}

func next(l *[]int) int {
	n := (*l)[0]
	*l = (*l)[1:]
	return n
}
