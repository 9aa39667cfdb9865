// Package record keeps what a run tells. Every machine tells its events and spends its fuel by it, and makes its lists by it, so that no two of them can differ there.
package record

import (
	"ratline/api"
	"ratline/val"
)

// mostFuel is the most fuel that counts: it bounds how long a run may be and how much it may tell.
const mostFuel = 100000

// Record is what a run has told so far, and the fuel that is left for more.
type Record struct {
	fuel   int
	events []api.Event
}

// With is the record of a run that begins with so much fuel.
func With(fuel int) *Record {
	return &Record{fuel: min(fuel, mostFuel)}
}

// Tick tells a tick, or that there is no fuel for it.
func (r *Record) Tick(number int) api.Run {
	return r.tell(api.Event{Kind: api.ETick, N: number})
}

// Out tells an output, or that there is no fuel for it.
func (r *Record) Out(v api.Value) api.Run {
	return r.tell(api.Event{Kind: api.EOut, V: v})
}

// tell adds a copy: else two events might share a list.
func (r *Record) tell(e api.Event) api.Run {
	if r.fuel < 1 {
		return api.RFuel
	}
	r.fuel--
	e.V = val.Copy(e.V)
	r.events = append(r.events, e)
	return api.ROK
}

// Returned is the trace of a run whose main returned v.
func (r *Record) Returned(v api.Value) api.Trace {
	return api.Trace{Events: r.events, V: val.Copy(v)}
}

// Ended is the trace of a run that e ended.
func (r *Record) Ended(e api.Run) api.Trace {
	return api.Trace{Events: r.events, E: e}
}

// List is a list of values that are Ok; RBig, if it would be too great or too deep, which is all that val can have against it.
func List(l []*api.Value) (api.Value, api.Run) {
	parts := make([]api.Value, len(l))
	for i, v := range l {
		parts[i] = *v
	}
	whole := val.List(parts)
	if whole.Kind != api.VList {
		return val.Nil(), api.RBig
	}
	return whole, api.ROK
}
