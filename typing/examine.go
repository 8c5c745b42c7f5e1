package typing

import "armature/api"

// variable is a name with its type.
type variable struct {
	name string
	kind relationType
}

// examiner examines trees. The first diagnostic leaves the recursion as a panic with an api.Diagnostic.
type examiner struct {
	sp       api.Spec
	callable int
	temporal []bool
	env      []variable
}

// newExaminer returns an examiner for an environment in which the first predicates may be called.
func newExaminer(sp api.Spec, callable int, env []api.Param) *examiner {
	x := &examiner{sp: sp, callable: callable, temporal: temporalPreds(sp, callable)}
	for _, p := range env {
		x.env = append(x.env, variable{p.Name, typeOf(p.Sort)})
	}
	return x
}

// fail leaves the recursion with a diagnostic of a node.
func fail(e api.Errno, n api.Node) {
	panic(api.Diagnostic{Err: e, At: n.At})
}

// require fails unless a condition holds.
func require(condition bool, e api.Errno, n api.Node) {
	if !condition {
		fail(e, n)
	}
}

// predicate returns the index of the predicate that a name denotes where the first predicates may be called, or -1.
func predicate(sp api.Spec, callable int, name string) int {
	for i := range callable {
		if sp.Preds[i].Name == name {
			return i
		}
	}
	return -1
}

// temporalPreds tells for each of the first predicates whether it is temporal.
func temporalPreds(sp api.Spec, callable int) []bool {
	out := make([]bool, callable)
	for i := range out {
		out[i] = hasTemporal(sp, out[:i], sp.Preds[i].Body)
	}
	return out
}

// hasTemporal reports whether a tree contains a temporal operator, or a call of a temporal one among the earlier predicates.
func hasTemporal(sp api.Spec, earlier []bool, n api.Node) bool {
	if isTemporal(sp, earlier, n) {
		return true
	}
	for _, kid := range n.Kids {
		if hasTemporal(sp, earlier, kid) {
			return true
		}
	}
	return false
}

// isTemporal reports whether a node is a temporal operator or calls a temporal one among the earlier predicates.
func isTemporal(sp api.Spec, earlier []bool, n api.Node) bool {
	switch n.Op {
	case api.OpPrime, api.OpAlways, api.OpEventual, api.OpAfter, api.OpUntil:
		return true
	case api.OpCall:
		i := predicate(sp, len(earlier), n.Name)
		return i >= 0 && earlier[i]
	}
	return false
}

// examine returns the type of a tree, which is empty unless it is a relation; timeless tells whether temporal operators are forbidden.
func (x *examiner) examine(n api.Node, timeless bool) relationType {
	if timeless && isTemporal(x.sp, x.temporal, n) {
		fail(api.ErrTemporal, n)
	}
	switch n.Op {
	case api.OpName:
		return x.name(n)
	case api.OpCall:
		x.call(n)
		return relationType{}
	case api.OpCompr, api.OpAll, api.OpExists:
		return x.binder(n, timeless)
	}
	timeless = timeless || n.Op == api.OpClosure || n.Op == api.OpReflexive
	var kids []relationType
	for _, kid := range n.Kids {
		kids = append(kids, x.examine(kid, timeless))
	}
	return x.operator(n, kids)
}

// name returns the type of a name.
func (x *examiner) name(n api.Node) relationType {
	for i := len(x.env) - 1; i >= 0; i-- {
		if x.env[i].name == n.Name {
			return x.env[i].kind
		}
	}
	found := globals(x.sp, n.Name)
	require(len(found) > 0, api.ErrName, n)
	require(len(found) == 1, api.ErrAmbiguous, n)
	return found[0]
}

// globals returns the types of all fields, sorts and constants with a name.
func globals(sp api.Spec, name string) []relationType {
	var found []relationType
	for _, f := range sp.Fields {
		if f.Name == name {
			found = append(found, typeOf(f.Sorts...))
		}
	}
	for i, s := range sp.Sorts {
		if s.Name == name {
			found = append(found, typeOf(i))
		}
		if s.Ordered && s.Name+firstSuffix == name {
			found = append(found, typeOf(i))
		}
		if s.Ordered && s.Name+nextSuffix == name {
			found = append(found, typeOf(i, i))
		}
	}
	return found
}

// call examines a call.
func (x *examiner) call(n api.Node) {
	require(predicate(x.sp, len(x.sp.Preds), n.Name) >= 0, api.ErrName, n)
	i := predicate(x.sp, x.callable, n.Name)
	require(i >= 0 && len(n.Kids) == len(x.sp.Preds[i].Params), api.ErrCall, n)
	for j, kid := range n.Kids {
		t := x.examine(kid, true)
		require(t.arity == 1, api.ErrArity, n)
		require(t.only(x.sp.Preds[i].Params[j].Sort), api.ErrKind, n)
	}
}

// binder examines a comprehension or a quantifier.
func (x *examiner) binder(n api.Node, timeless bool) relationType {
	timeless = timeless || n.Op == api.OpCompr
	domain := x.examine(n.Kids[0], timeless)
	require(domain.arity == 1, api.ErrArity, n)
	x.env = append(x.env, variable{n.Name, domain})
	x.examine(n.Kids[1], timeless)
	x.env = x.env[:len(x.env)-1]
	return domain
}

// operator returns the type of a node with the types of its kids, for all operators that bind no variable.
func (x *examiner) operator(n api.Node, kids []relationType) relationType {
	switch n.Op {
	case api.OpNone:
		return emptyType(n.N)
	case api.OpUniv:
		return universal(1, len(x.sp.Sorts))
	case api.OpIden:
		return universal(2, len(x.sp.Sorts))
	case api.OpPrime:
		return kids[0]
	case api.OpTranspose, api.OpClosure, api.OpReflexive:
		require(kids[0].arity == 2, api.ErrArity, n)
	case api.OpUnion, api.OpInter, api.OpDiff, api.OpOverride, api.OpIn, api.OpEqual:
		require(kids[0].arity == kids[1].arity, api.ErrArity, n)
	case api.OpJoin:
		arity := kids[0].arity + kids[1].arity - 2
		require(1 <= arity && arity <= api.MaxArity, api.ErrArity, n)
		return kids[0].join(kids[1])
	case api.OpProduct:
		require(kids[0].arity+kids[1].arity <= api.MaxArity, api.ErrArity, n)
		return kids[0].product(kids[1])
	}
	switch n.Op {
	case api.OpTranspose:
		return kids[0].transpose()
	case api.OpClosure:
		return kids[0].closure()
	case api.OpReflexive:
		return kids[0].closure().union(universal(2, len(x.sp.Sorts)))
	case api.OpUnion, api.OpOverride:
		return kids[0].union(kids[1])
	case api.OpInter:
		return kids[0].filtered(func(t sorts) bool { return kids[1].tuples[t] })
	case api.OpDiff:
		return kids[0]
	}
	return relationType{}
}
