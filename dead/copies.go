package dead

import (
	"ratline/api"
	"ratline/blocks"
	"ratline/live"
)

// none is what live.Def tells of an Ins that writes no register.
const none = -1

// copies knows, at a place of a block, which registers are copies of others. When a register was written is kept, so that a write ends all copies of it without a look for them.
type copies struct {
	from    map[int]origin
	written map[int]int // how many Ins were passed, that one too, when the register was written last
	passed  int
}

// origin is what a register is a copy of, if that one has not been written since.
type origin struct{ register, since int }

func newCopies() *copies {
	return &copies{from: map[int]origin{}, written: map[int]int{}}
}

// tellCopies goes through each block by itself, since ahead of its first Ins nothing is known of copies.
func (c *code) tellCopies() {
	for n := range c.Blocks {
		b := &c.Blocks[n]
		known := newCopies()
		for k := range b.Ins {
			blocks.Read(&b.Ins[k], known.told)
			known.pass(b.Ins[k])
		}
		known.tellEnd(&b.Term)
	}
}

// told is what r is a copy of; r itself, if it is none.
func (c *copies) told(r int) int {
	if o, is := c.from[r]; is && c.written[o.register] < o.since {
		return o.register
	}
	return r
}

func (c *copies) tellEnd(t *api.RTerm) {
	if t.Kind == api.TBr || t.Kind == api.TRet {
		t.A = c.told(t.A)
	}
}

// pass takes up what i writes, whose own reads have been told.
func (c *copies) pass(i api.RIns) {
	c.passed++
	d := live.Def(i)
	if d == none {
		return
	}
	c.written[d] = c.passed
	delete(c.from, d)
	if i.Op == api.RMov && i.A != d {
		c.from[d] = origin{register: i.A, since: c.passed}
	}
}
