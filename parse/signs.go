package parse

import "ratline/api"

// Levels of strength of an expression, the weakest first.
const (
	ofOr = iota + 1
	ofAnd
	ofCompare
	ofSum
	ofProduct
	ofAhead
	ofIndex
)

const weakest = ofOr

// operator is a sign at a level, and the node that it makes there.
type operator struct {
	sign            string
	level, kind, op int
}

var operators = [...]operator{
	{"||", ofOr, api.EOr, 0},
	{"&&", ofAnd, api.EAnd, 0},
	{"==", ofCompare, api.EBin, api.OEq},
	{"!=", ofCompare, api.EBin, api.ONe},
	{"<", ofCompare, api.EBin, api.OLt},
	{"<=", ofCompare, api.EBin, api.OLe},
	{">", ofCompare, api.EBin, api.OGt},
	{">=", ofCompare, api.EBin, api.OGe},
	{"+", ofSum, api.EBin, api.OAdd},
	{"-", ofSum, api.EBin, api.OSub},
	{"*", ofProduct, api.EBin, api.OMul},
	{"/", ofProduct, api.EBin, api.ODiv},
	{"%", ofProduct, api.EBin, api.OMod},
	{"-", ofAhead, api.EUn, api.ONeg},
	{"!", ofAhead, api.EUn, api.ONot},
	{"[", ofIndex, api.EBin, api.OGet},
}

// atLevel is the operator of that level with that sign, if there is one.
func atLevel(level int, sign string) (operator, bool) {
	for _, o := range operators {
		if o.level == level && o.sign == sign {
			return o, true
		}
	}
	return operator{}, false
}

// ofNode is the operator that makes nodes of that kind and op, if there is one.
func ofNode(kind, op int) (operator, bool) {
	for _, o := range operators {
		if o.kind == kind && o.op == op {
			return o, true
		}
	}
	return operator{}, false
}

// node is what o makes of its operands.
func (o operator) node(l ...api.Node) api.Node {
	return api.Node{Kind: o.kind, Op: o.op, L: l}
}

// places is how many operands o takes.
func (o operator) places() int {
	if o.level == ofAhead {
		return 1
	}
	return 2
}
