package scope

import "ratline/api"

// mostSteps is how many nodes are gone through at most: no source has nearly as many, and a tree that holds itself has no end.
const mostSteps = 1 << 22

// program is what all functions have in common.
type program struct {
	funs   []api.Fun
	number map[string]int
	steps  int
}

// programOf numbers the functions; each has a name of its own.
func programOf(l []api.Fun) (*program, api.Errno) {
	p := &program{funs: l, number: make(map[string]int)}
	for i, f := range l {
		_, taken := p.number[f.Name]
		_, _, built := Builtin(f.Name)
		if taken || built {
			return nil, api.ErrName
		}
		p.number[f.Name] = i
	}
	return p, api.OK
}

// function is what the names of f mean; or its first error.
func (p *program) function(f *api.Fun) (Fun, api.Errno) {
	w := walk{program: p}
	w.params(f.Params)
	w.through(&f.Body)
	if w.fun.Locals > api.MaxLocals {
		w.fail(api.ErrMany)
	}
	return w.fun, w.e
}

// called is the number by which name is told among Calls, and how many operands it takes.
func (p *program) called(name string) (number, args int, ok bool) {
	if op, args, ok := Builtin(name); ok {
		return op + builtin, args, true
	}
	i, ok := p.number[name]
	if !ok {
		return 0, 0, false
	}
	return i, len(p.funs[i].Params), true
}

func (p *program) checkMain() api.Errno {
	i, ok := p.number["main"]
	switch {
	case !ok:
		return api.ErrName
	case len(p.funs[i].Params) > 0:
		return api.ErrArity
	}
	return api.OK
}
