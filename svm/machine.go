package svm

import (
	"ratline/api"
	"ratline/record"
)

// machine runs a program that stack.Check finds good, and so does not ask whether what an instruction takes is there.
type machine struct {
	fns     []api.SFn
	calls   []call
	values  []*api.Value // of all open calls, each one's locals and behind them its stack; by pointer, since many calls may be open and a value is never changed
	nothing *api.Value   // what a local holds at first
	told    *record.Record
}

// call is one that is open. Calls are a list of the machine's own, so that as many may be open as there is fuel.
type call struct {
	fn   int
	at   int // the instruction that comes next
	base int // where its locals begin
}

// run calls main and goes on until that call is closed, or something ends the run ahead of it.
func (m *machine) run(main int) api.Trace {
	m.open(main)
next:
	if e := m.step(); e != api.ROK {
		return m.told.Ended(e)
	}
	if len(m.calls) > 0 {
		goto next
	}
	return m.told.Returned(*m.pop())
}

// open opens a call of fn. Its operands, the topmost values, are its first locals where they stand.
func (m *machine) open(fn int) {
	f := &m.fns[fn]
	m.calls = append(m.calls, call{fn: fn, base: len(m.values) - f.Params})
	for range f.Locals - f.Params {
		m.push(m.nothing)
	}
}

// shut closes the innermost call: all that it has is dropped, but for the value that it returns.
func (m *machine) shut() {
	v, last := m.pop(), len(m.calls)-1
	m.values = append(m.values[:m.calls[last].base], v)
	m.calls = m.calls[:last]
}

func (m *machine) push(v *api.Value) {
	m.values = append(m.values, v)
}

func (m *machine) pop() *api.Value {
	return m.take(1)[0]
}

// take takes the topmost n values, the first one deepest. They stand there until the next push.
func (m *machine) take(n int) []*api.Value {
	left := len(m.values) - n
	taken := m.values[left:]
	m.values = m.values[:left]
	return taken
}
