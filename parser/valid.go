package parser

import "armature/api"

// Kinds of nodes, written as in the comments of package api.
const (
	relationKind = 'e'
	integerKind  = 'i'
	formulaKind  = 'f'
)

// kindOf returns the kind of the nodes with an operator.
func kindOf(op int) byte {
	switch {
	case api.OpName <= op && op <= api.OpCompr:
		return relationKind
	case api.OpLit <= op && op <= api.OpSub:
		return integerKind
	}
	return formulaKind
}

// kidKinds returns the kinds of the kids of an operator other than OpCall; ok is false if there is no such operator.
func kidKinds(op int) (kinds string, ok bool) {
	switch op {
	case api.OpName, api.OpNone, api.OpUniv, api.OpIden, api.OpLit, api.OpTrue, api.OpFalse:
		return "", true
	case api.OpPrime, api.OpTranspose, api.OpClosure, api.OpReflexive, api.OpCard, api.OpSome, api.OpNo, api.OpOne, api.OpLone:
		return "e", true
	case api.OpUnion, api.OpInter, api.OpDiff, api.OpJoin, api.OpProduct, api.OpOverride, api.OpIn, api.OpEqual:
		return "ee", true
	case api.OpAdd, api.OpSub, api.OpIntEq, api.OpLess:
		return "ii", true
	case api.OpNot, api.OpAlways, api.OpEventual, api.OpAfter:
		return "f", true
	case api.OpAnd, api.OpOr, api.OpImplies, api.OpIff, api.OpUntil:
		return "ff", true
	case api.OpCompr, api.OpAll, api.OpExists:
		return "ef", true
	}
	return "", false
}

// kidsFit reports whether the kids of a node have the number and the kinds that its operator requires.
func kidsFit(n api.Node) bool {
	kinds, ok := kidKinds(n.Op)
	if n.Op != api.OpCall && (!ok || len(kinds) != len(n.Kids)) {
		return false
	}
	for i, kid := range n.Kids {
		kind := byte(relationKind)
		if n.Op != api.OpCall {
			kind = kinds[i]
		}
		if kindOf(kid.Op) != kind {
			return false
		}
	}
	return true
}

// ValidNode reports whether a tree is well-formed: operators, numbers of kids, names and limits.
func ValidNode(n api.Node) bool {
	left := api.MaxNodes
	return validTree(n, api.MaxDepth, &left)
}

// validTree reports whether a tree has well-formed nodes, at most the given levels, and not more nodes than are left, which it counts.
func validTree(n api.Node, levels int, left *int) bool {
	*left--
	if levels == 0 || *left < 0 || !kidsFit(n) || !nameFits(n) || !numberFits(n) {
		return false
	}
	for _, kid := range n.Kids {
		if !validTree(kid, levels-1, left) {
			return false
		}
	}
	return true
}

// nameFits reports whether the Name of a node is as its operator requires.
func nameFits(n api.Node) bool {
	switch n.Op {
	case api.OpName, api.OpCompr, api.OpAll, api.OpExists, api.OpCall:
		return validName(n.Name)
	}
	return n.Name == ""
}

// numberFits reports whether the N of a node is as its operator requires.
func numberFits(n api.Node) bool {
	switch n.Op {
	case api.OpNone:
		return 1 <= n.N && n.N <= api.MaxArity
	case api.OpLit:
		return -api.MaxInt <= n.N && n.N <= api.MaxInt
	}
	return n.N == 0
}

// validName reports whether a string is a name.
func validName(s string) bool {
	if s == "" || len(s) > api.MaxName || keyword(s) {
		return false
	}
	for i := range len(s) {
		letter := 'a' <= s[i] && s[i] <= 'z' || 'A' <= s[i] && s[i] <= 'Z'
		other := '0' <= s[i] && s[i] <= '9' || s[i] == '_'
		if !letter && (i == 0 || !other) {
			return false
		}
	}
	return true
}

// keyword reports whether a word is a keyword.
func keyword(s string) bool {
	switch s {
	case "sort", "ordered", "var", "field", "pred", "fact", "all", "some", "no", "one", "lone", "always", "eventually", "after",
		"until", "none", "univ", "iden", "in", "not", "true", "false":
		return true
	}
	return false
}
