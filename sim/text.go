package sim

import (
	"strconv"

	"ratline/api"
	"ratline/val"
)

// Text tells a function: of each block a line, and a line of each of its Ins and of its end.
func Text(f api.RFn) string {
	var t []byte
	for n, b := range f.Blocks {
		t = append(t, "block "...)
		t = append(appendNumbers(t, n), '\n')
		for at := range b.Ins {
			t = append(appendIns(t, &b.Ins[at]), '\n')
		}
		t = append(appendNumbers(t, b.Term.Kind, b.Term.A, b.Term.To, b.Term.Else), '\n')
	}
	return string(t)
}

// appendIns lays an Ins behind t. Its list is told whatever its Op is: what should not be there is to be seen.
func appendIns(t []byte, i *api.RIns) []byte {
	t = appendNumbers(t, i.Op, i.D, i.A, i.B, i.N)
	if i.Op == api.RConst {
		t = append(t, ' ')
		t = append(t, val.Show(i.K)...)
	}
	if len(i.L) > 0 {
		t = append(t, ' ')
		t = appendNumbers(t, i.L...)
	}
	return t
}

// appendNumbers lays numbers behind t, parted by blanks.
func appendNumbers(t []byte, l ...int) []byte {
	for i, n := range l {
		if i > 0 {
			t = append(t, ' ')
		}
		t = strconv.AppendInt(t, int64(n), 10)
	}
	return t
}
