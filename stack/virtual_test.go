package stack

import (
	"testing"

	"ratline/api"
)

// Promise 7.2: more than 200 registers are too many. No locals and heights within their bounds make so many, so this is asked of the sum alone.
func TestRegisters(t *testing.T) {
	for _, c := range []struct {
		locals, height, n int
		e                 api.Errno
	}{{0, 0, 0, api.OK}, {64, 64, 128, api.OK}, {64, 136, 200, api.OK}, {200, 0, 200, api.OK}, {64, 137, 0, api.ErrBig}, {201, 0, 0, api.ErrBig}} {
		if n, e := registers(c.locals, c.height); n != c.n || e != c.e {
			t.Error(c, n, e)
		}
	}
}
