package gen

import (
	"math"

	"ratline/api"
	"ratline/val"
)

// shape is which parts a kind of node has: from least to most of them, expressions first, statements behind those.
type shape struct{ least, most, expressions int }

// shapes stand at the numbers of their kinds.
var shapes = [...]shape{
	api.NLet: {1, 1, 1}, api.NSet: {1, 1, 1}, api.NIf: {2, 3, 1}, api.NWhile: {2, 2, 1}, api.NBreak: {0, 0, 0}, api.NContinue: {0, 0, 0},
	api.NReturn: {0, 1, 1}, api.NPrint: {1, 1, 1}, api.NDo: {1, 1, 1}, api.NBlock: {0, math.MaxInt, 0},
	api.EBin: {2, 2, 2}, api.EAnd: {2, 2, 2}, api.EOr: {2, 2, 2}, api.EUn: {1, 1, 1},
	api.EInt: {0, 0, 0}, api.EImag: {0, 0, 0}, api.EText: {0, 0, 0}, api.ENil: {0, 0, 0}, api.EVar: {0, 0, 0},
	api.ECall: {0, api.MaxParams, api.MaxParams}, api.EList: {0, api.MaxItems, api.MaxItems},
}

func isStatement(kind int) bool {
	return kind >= api.NLet && kind <= api.NBlock
}

func isExpression(kind int) bool {
	return kind >= api.EBin && kind <= api.EList
}

// canBeLaid tells whether body is a statement all nodes of which have their parts, and not so many that their code is too long in any case: each node but a block makes an instruction at least. What is open is an own list: a tree may be deeper than calls may.
func canBeLaid(body *api.Node) bool {
	if !isStatement(body.Kind) {
		return false
	}
	open, instructions := []*api.Node{body}, 0
	for len(open) > 0 && instructions <= api.MaxCode {
		n := open[len(open)-1]
		open = open[:len(open)-1]
		if !hasItsParts(n) || isTooLongText(n) {
			return false
		}
		if n.Kind != api.NBlock {
			instructions++
		}
		for i := range n.L {
			open = append(open, &n.L[i])
		}
	}
	return instructions <= api.MaxCode
}

// hasItsParts is asked of a node whose own kind is one.
func hasItsParts(n *api.Node) bool {
	s := shapes[n.Kind]
	if len(n.L) < s.least || len(n.L) > s.most {
		return false
	}
	for i := range n.L {
		kind := n.L[i].Kind
		if i < s.expressions && !isExpression(kind) || i >= s.expressions && !isStatement(kind) {
			return false
		}
	}
	return true
}

// isTooLongText is asked of the node, since val.Text answers such a one by nil.
func isTooLongText(n *api.Node) bool {
	return n.Kind == api.EText && val.Size(api.Value{Kind: api.VText, S: n.S}) > api.MaxSize
}
