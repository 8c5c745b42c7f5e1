package compile

import (
	"armature/api"
	"armature/circuit"
	"armature/matrix"
)

// formula translates a formula in a state.
func (w *builder) formula(n api.Node, state int) api.Ref {
	switch n.Op {
	case api.OpTrue:
		return yes
	case api.OpFalse:
		return no
	case api.OpIn, api.OpEqual:
		return w.inclusion(n, state)
	case api.OpSome, api.OpNo, api.OpOne, api.OpLone:
		return w.multiplicity(n.Op, w.relation(n.Kids[0], state))
	case api.OpIntEq, api.OpLess:
		return w.comparison(n, state)
	case api.OpNot:
		return circuit.Not(w.formula(n.Kids[0], state))
	case api.OpAnd, api.OpOr, api.OpImplies, api.OpIff:
		a, b := w.formula(n.Kids[0], state), w.formula(n.Kids[1], state)
		return w.connective(n.Op, a, b)
	case api.OpAll, api.OpExists:
		return w.quantifier(n, state)
	case api.OpAfter:
		return w.formula(n.Kids[0], w.next(state))
	case api.OpAlways, api.OpEventual:
		return w.overPath(n, state)
	case api.OpUntil:
		return w.until(n, state)
	}
	for _, kid := range n.Kids {
		w.relation(kid, state)
	}
	panic(api.ErrCall)
}

// inclusion translates OpIn and OpEqual.
func (w *builder) inclusion(n api.Node, state int) api.Ref {
	a, b := w.relation(n.Kids[0], state), w.relation(n.Kids[1], state)
	require(a.Arity == b.Arity, api.ErrArity)
	r := w.reference(matrix.In(w.Circuit, a, b))
	if n.Op == api.OpEqual {
		r = w.and(r, w.reference(matrix.In(w.Circuit, b, a)))
	}
	return r
}

// multiplicity translates a statement about the number of tuples of a matrix.
func (w *builder) multiplicity(op int, a api.Matrix) api.Ref {
	switch op {
	case api.OpSome:
		return w.reference(matrix.Some(w.Circuit, a))
	case api.OpNo:
		return circuit.Not(w.reference(matrix.Some(w.Circuit, a)))
	case api.OpLone:
		return w.reference(matrix.Lone(w.Circuit, a))
	}
	some := w.reference(matrix.Some(w.Circuit, a))
	return w.and(some, w.reference(matrix.Lone(w.Circuit, a)))
}

// connective translates a connective of two formulas.
func (w *builder) connective(op int, a, b api.Ref) api.Ref {
	switch op {
	case api.OpAnd:
		return w.and(a, b)
	case api.OpOr:
		return w.or(a, b)
	case api.OpImplies:
		return w.or(circuit.Not(a), b)
	}
	return w.reference(circuit.Iff(w.Circuit, a, b))
}

// quantifier translates a quantified formula.
func (w *builder) quantifier(n api.Node, state int) api.Ref {
	all, some := yes, no
	w.each(n, state, func(cell api.Cell, formula api.Ref) {
		if n.Op == api.OpAll {
			all = w.and(all, w.or(circuit.Not(cell.Ref), formula))
		} else {
			some = w.or(some, w.and(cell.Ref, formula))
		}
	})
	if n.Op == api.OpAll {
		return all
	}
	return some
}

// overPath translates always and eventually.
func (w *builder) overPath(n api.Node, state int) api.Ref {
	all, some := yes, no
	for _, s := range w.path(state) {
		r := w.formula(n.Kids[0], s)
		if n.Op == api.OpAlways {
			all = w.and(all, r)
		} else {
			some = w.or(some, r)
		}
	}
	if n.Op == api.OpAlways {
		return all
	}
	return some
}

// until translates until.
func (w *builder) until(n api.Node, state int) api.Ref {
	waiting, reached := yes, no
	for _, s := range w.path(state) {
		first, second := w.formula(n.Kids[0], s), w.formula(n.Kids[1], s)
		reached = w.or(reached, w.and(second, waiting))
		waiting = w.and(waiting, first)
	}
	return reached
}
