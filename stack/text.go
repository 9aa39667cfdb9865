package stack

import (
	"strconv"

	"ratline/api"
)

// Text tells a program: of each function a line, and a line of each of its instructions.
func Text(p api.Prog) string {
	var t []byte
	for n, f := range p.Fns {
		t = append(t, "fn "...)
		t = appendLine(t, n, f.Params, f.Locals)
		for at, i := range f.Code {
			t = appendLine(t, at, i.Op, i.A, i.B)
		}
	}
	return string(t)
}

// appendLine lays numbers behind t, parted by blanks, and the line's end.
func appendLine(t []byte, l ...int) []byte {
	for i, n := range l {
		if i > 0 {
			t = append(t, ' ')
		}
		t = strconv.AppendInt(t, int64(n), 10)
	}
	return append(t, '\n')
}
