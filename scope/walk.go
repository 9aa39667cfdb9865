package scope

import "ratline/api"

// walk goes through one function. The first error is kept, and ends it.
type walk struct {
	program *program
	visible names
	loops   int
	fun     Fun
	e       api.Errno
}

// open is a node that is being gone through, and how many of its parts have been.
type open struct {
	node *api.Node
	done int
}

func (w *walk) fail(e api.Errno) {
	if w.e == api.OK {
		w.e = e
	}
}

// params are the first locals.
func (w *walk) params(l []string) {
	for i := 0; i < len(l) && w.e == api.OK; i++ {
		w.declare(l[i])
	}
}

// through goes through n and all that is in it, as it stands. What is open is an own list: a tree may be deeper than calls may.
func (w *walk) through(n *api.Node) {
	path := []open{{node: n}}
	w.begin(n)
	for len(path) > 0 && w.e == api.OK {
		last := &path[len(path)-1]
		if last.done == len(last.node.L) {
			w.end(last.node)
			path = path[:len(path)-1]
			continue
		}
		next := &last.node.L[last.done]
		last.done++
		path = append(path, open{node: next})
		w.begin(next)
	}
}

// step counts n. A name counts by its length too, because it is looked for.
func (w *walk) step(n *api.Node) {
	p := w.program
	p.steps += 1 + len(n.S)/api.MaxText
	if p.steps > mostSteps {
		w.fail(api.ErrMany)
	}
}

// begin does what n asks for ahead of its parts.
func (w *walk) begin(n *api.Node) {
	w.step(n)
	switch n.Kind {
	case api.NSet, api.EVar:
		w.use(n.S)
	case api.NBlock:
		w.visible.openBlock()
	case api.NWhile:
		w.loops++
	case api.NBreak, api.NContinue:
		w.leave()
	}
}

// end does what n asks for behind its parts.
func (w *walk) end(n *api.Node) {
	switch n.Kind {
	case api.NLet:
		w.let(n.S)
	case api.NBlock:
		w.visible.closeBlock()
	case api.NWhile:
		w.loops--
	case api.ECall:
		w.call(n.S, len(n.L))
	}
}

// declare gives name the next local.
func (w *walk) declare(name string) {
	if !w.visible.add(name, w.fun.Locals) {
		w.fail(api.ErrName)
	}
	w.fun.Locals++
}

func (w *walk) let(name string) {
	w.fun.Slots = append(w.fun.Slots, w.fun.Locals)
	w.declare(name)
}

// use is of a name that has to be visible.
func (w *walk) use(name string) {
	local, ok := w.visible.find(name)
	if !ok {
		w.fail(api.ErrName)
		return
	}
	w.fun.Slots = append(w.fun.Slots, local)
}

// leave is of what leaves a loop's round, which has to be in one.
func (w *walk) leave() {
	if w.loops == 0 {
		w.fail(api.ErrName)
	}
}

func (w *walk) call(name string, operands int) {
	number, args, ok := w.program.called(name)
	switch {
	case !ok:
		w.fail(api.ErrName)
	case args != operands:
		w.fail(api.ErrArity)
	default:
		w.fun.Calls = append(w.fun.Calls, number)
	}
}
