package scope

// names are those that are visible: a map to their locals, and the order in which they came, by which a block's end knows those that end with it.
type names struct {
	locals map[string]int
	order  []string
	blocks []int // of each block that is open: how many were visible where it began
}

// add makes name visible, up to the end of the block that is open; false, if it is visible already.
func (n *names) add(name string, local int) bool {
	if _, ok := n.locals[name]; ok {
		return false
	}
	if n.locals == nil {
		n.locals = make(map[string]int)
	}
	n.locals[name] = local
	n.order = append(n.order, name)
	return true
}

// find is name's local; false, if it is not visible.
func (n *names) find(name string) (int, bool) {
	local, ok := n.locals[name]
	return local, ok
}

func (n *names) openBlock() {
	n.blocks = append(n.blocks, len(n.order))
}

func (n *names) closeBlock() {
	last := len(n.blocks) - 1
	for _, name := range n.order[n.blocks[last]:] {
		delete(n.locals, name)
	}
	n.order, n.blocks = n.order[:n.blocks[last]], n.blocks[:last]
}
