package hand

import (
	"slices"

	"ratline/api"
	"ratline/gen"
	"ratline/lift"
	"ratline/val"
)

// Lifted is a text as register code, or why there is none.
func Lifted(s string) (api.RProg, api.Errno) {
	p, _, e := gen.Source(s)
	if e != api.OK {
		return api.RProg{}, e
	}
	return lift.Program(p)
}

// Alike tells whether two runs tell the same.
func Alike(a, b api.Trace) bool {
	same := func(x, y api.Event) bool { return x.Kind == y.Kind && x.N == y.N && val.Same(x.V, y.V) }
	return slices.EqualFunc(a.Events, b.Events, same) && val.Same(a.V, b.V) && a.E == b.E
}

// Mapped is p with each of its functions changed.
func Mapped(p api.RProg, change func(api.RFn) api.RFn) api.RProg {
	p.Fns = slices.Clone(p.Fns)
	for n, f := range p.Fns {
		p.Fns[n] = change(f)
	}
	return p
}

// Plain is f in lists of its own, nil for each one that is empty: so two that mean the same are deeply equal.
func Plain(f api.RFn) api.RFn {
	f.Blocks = append([]api.RBlock(nil), f.Blocks...)
	for n := range f.Blocks {
		b := &f.Blocks[n]
		b.Ins = append([]api.RIns(nil), b.Ins...)
		for k := range b.Ins {
			b.Ins[k].L = append([]int(nil), b.Ins[k].L...)
		}
	}
	return f
}

// Copied is Plain, with values that are Ok.
func Copied(f api.RFn) api.RFn {
	f = Plain(f)
	for _, b := range f.Blocks {
		for k := range b.Ins {
			b.Ins[k].K = val.Copy(b.Ins[k].K)
		}
	}
	return f
}

// WithRoom is a list of its own with room behind it, which holds something.
func WithRoom[T any](l []T, spare ...T) []T {
	return append(slices.Clone(l), spare...)[:len(l)]
}

// FullValue is v with room behind all of its lists.
func FullValue(v api.Value) api.Value {
	v.L = WithRoom(v.L, val.Text("spare"))
	for n := range v.L {
		v.L[n] = FullValue(v.L[n])
	}
	return v
}

// Full is f with room behind all of its lists.
func Full(f api.RFn) api.RFn {
	f.Blocks = WithRoom(f.Blocks, Block(Jump(9)), Block(Ret(3)))
	for n := range f.Blocks {
		b := &f.Blocks[n]
		b.Ins = WithRoom(b.Ins, Out(5), Tick(9))
		for k := range b.Ins {
			b.Ins[k].L = WithRoom(b.Ins[k].L, 77, 3, 78)
			b.Ins[k].K = FullValue(b.Ins[k].K)
		}
	}
	return f
}

// Everything is all that f has, spare room too, as one list of values that can be held against another.
func Everything(f api.RFn) []any {
	l := []any{f.Name, f.Params, f.Regs, f.Blocks[:cap(f.Blocks)]}
	for _, b := range f.Blocks {
		l = append(l, b.Ins[:cap(b.Ins)])
		for _, i := range b.Ins {
			l = append(l, i.L[:cap(i.L)])
			l = append(l, valueLists(i.K)...)
		}
	}
	return l
}

// valueLists are the lists within v, spare room too.
func valueLists(v api.Value) []any {
	l := []any{v.L[:cap(v.L)]}
	for _, x := range v.L {
		l = append(l, valueLists(x)...)
	}
	return l
}

// Shares tells whether two lists of these functions share memory, spare room too. It writes a mark of its own into each place of all lists: where two are one place, the first mark is gone.
func Shares(l ...api.RFn) bool {
	var places []*int
	for _, f := range l {
		places = append(places, placesOf(f)...)
	}
	for mark, p := range places {
		*p = mark
	}
	for mark, p := range places {
		if *p != mark {
			return true
		}
	}
	return false
}

// placesOf has, of each place of all lists of f, spare room too, something that can be written.
func placesOf(f api.RFn) []*int {
	var l []*int
	for n := range f.Blocks[:cap(f.Blocks)] {
		b := &f.Blocks[:cap(f.Blocks)][n]
		l = append(l, &b.Term.A)
		for k := range b.Ins[:cap(b.Ins)] {
			i := &b.Ins[:cap(b.Ins)][k]
			l = append(l, &i.Deep)
			for at := range i.L[:cap(i.L)] {
				l = append(l, &i.L[:cap(i.L)][at])
			}
			l = append(l, placesIn(i.K)...)
		}
	}
	return l
}

func placesIn(v api.Value) []*int {
	var l []*int
	for n := range v.L[:cap(v.L)] {
		x := &v.L[:cap(v.L)][n]
		l = append(append(l, &x.Kind), placesIn(*x)...)
	}
	return l
}
