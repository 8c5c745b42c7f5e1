package sample

import "armature/api"

// Tree returns a valid tree of a kind (e: relation, i: integer, f: formula) with at most the given number of levels. Its names need not denote anything.
func (s *Source) Tree(kind byte, levels int) api.Node {
	n := api.Node{Op: s.operator(kind, levels), At: s.Below(50)}
	kinds := treeKids(n.Op)
	switch n.Op {
	case api.OpName, api.OpCompr, api.OpAll, api.OpExists:
		n.Name = s.treeName()
	case api.OpCall:
		n.Name = s.treeName()
		kinds = "eee"[:s.Below(4)]
	case api.OpNone:
		n.N = s.Between(1, api.MaxArity)
	case api.OpLit:
		n.N = s.Between(-api.MaxInt, api.MaxInt)
	}
	if levels < 2 && n.Op == api.OpCall {
		kinds = ""
	}
	for i := range len(kinds) {
		n.Kids = append(n.Kids, s.Tree(kinds[i], levels-1))
	}
	return n
}

// treeName returns a name; some of them begin like keywords.
func (s *Source) treeName() string {
	return Pick(s, []string{"a", "b", "f", "x", "A", "v1", "int", "all_", "some1", "S_first", "abcdefghijklmnop"})
}

// operator returns an operator of a kind that can be the root of a tree with the given number of levels.
func (s *Source) operator(kind byte, levels int) int {
	leaves := []int{api.OpTrue, api.OpFalse, api.OpCall}
	inner := []int{api.OpIn, api.OpEqual, api.OpSome, api.OpNo, api.OpOne, api.OpLone, api.OpIntEq, api.OpLess, api.OpNot, api.OpAnd, api.OpOr,
		api.OpImplies, api.OpIff, api.OpAll, api.OpExists, api.OpCall, api.OpAlways, api.OpEventual, api.OpAfter, api.OpUntil}
	switch kind {
	case 'e':
		leaves = []int{api.OpName, api.OpName, api.OpName, api.OpNone, api.OpUniv, api.OpIden}
		inner = []int{api.OpPrime, api.OpUnion, api.OpInter, api.OpDiff, api.OpJoin, api.OpProduct, api.OpTranspose, api.OpClosure,
			api.OpReflexive, api.OpOverride, api.OpCompr}
	case 'i':
		leaves = []int{api.OpLit}
		inner = []int{api.OpCard, api.OpAdd, api.OpSub}
	}
	if levels < 2 || s.Chance(15) {
		return Pick(s, leaves)
	}
	return Pick(s, inner)
}

// treeKids returns the kinds of the kids of an operator other than OpCall.
func treeKids(op int) string {
	switch op {
	case api.OpPrime, api.OpTranspose, api.OpClosure, api.OpReflexive, api.OpCard, api.OpSome, api.OpNo, api.OpOne, api.OpLone:
		return "e"
	case api.OpUnion, api.OpInter, api.OpDiff, api.OpJoin, api.OpProduct, api.OpOverride, api.OpIn, api.OpEqual:
		return "ee"
	case api.OpAdd, api.OpSub, api.OpIntEq, api.OpLess:
		return "ii"
	case api.OpNot, api.OpAlways, api.OpEventual, api.OpAfter:
		return "f"
	case api.OpAnd, api.OpOr, api.OpImplies, api.OpIff, api.OpUntil:
		return "ff"
	case api.OpCompr, api.OpAll, api.OpExists:
		return "ef"
	}
	return ""
}

// Count returns the number of nodes of a tree.
func Count(n api.Node) int {
	total := 1
	for _, kid := range n.Kids {
		total += Count(kid)
	}
	return total
}
