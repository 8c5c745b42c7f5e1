package eval

import (
	"armature/api"
	"armature/model"
	"armature/relation"
)

// formula returns the value of a formula in a state. All parts are evaluated before the operator is applied, so that the first error does not depend on values.
func (v *evaluator) formula(n api.Node, state int) bool {
	switch n.Op {
	case api.OpTrue:
		return true
	case api.OpFalse:
		return false
	case api.OpIn, api.OpEqual:
		a, b := v.sameArity(n, state)
		return relation.In(a, b) && (n.Op == api.OpIn || relation.In(b, a))
	case api.OpSome, api.OpNo, api.OpOne, api.OpLone:
		return multiplicity(n.Op, len(v.relation(n.Kids[0], state).Tuples))
	case api.OpIntEq, api.OpLess:
		a, b := v.integer(n.Kids[0], state), v.integer(n.Kids[1], state)
		return a < b && n.Op == api.OpLess || a == b && n.Op == api.OpIntEq
	case api.OpNot:
		return !v.formula(n.Kids[0], state)
	case api.OpAnd, api.OpOr, api.OpImplies, api.OpIff:
		a, b := v.formula(n.Kids[0], state), v.formula(n.Kids[1], state)
		return connective(n.Op, a, b)
	case api.OpAll, api.OpExists:
		return v.quantifier(n, state)
	case api.OpAfter:
		return v.formula(n.Kids[0], model.Next(v.Model, state))
	case api.OpAlways, api.OpEventual:
		return v.overPath(n, state)
	case api.OpUntil:
		return v.until(n, state)
	}
	for _, kid := range n.Kids {
		v.relation(kid, state)
	}
	panic(api.ErrCall)
}

// multiplicity returns the value of the formula that a relation has some number of tuples.
func multiplicity(op, tuples int) bool {
	switch op {
	case api.OpSome:
		return tuples > 0
	case api.OpNo:
		return tuples == 0
	case api.OpOne:
		return tuples == 1
	}
	return tuples <= 1
}

// connective returns the value of a connective.
func connective(op int, a, b bool) bool {
	switch op {
	case api.OpAnd:
		return a && b
	case api.OpOr:
		return a || b
	case api.OpImplies:
		return !a || b
	}
	return a == b
}

// quantifier returns the value of a quantified formula.
func (v *evaluator) quantifier(n api.Node, state int) bool {
	all, some := true, false
	v.each(n, state, func(_ int, holds bool) {
		all = all && holds
		some = some || holds
	})
	if n.Op == api.OpAll {
		return all
	}
	return some
}

// overPath returns the value of always and eventually.
func (v *evaluator) overPath(n api.Node, state int) bool {
	all, some := true, false
	for _, s := range v.path(state) {
		holds := v.formula(n.Kids[0], s)
		all = all && holds
		some = some || holds
	}
	if n.Op == api.OpAlways {
		return all
	}
	return some
}

// until returns the value of until.
func (v *evaluator) until(n api.Node, state int) bool {
	waiting, reached := true, false
	for _, s := range v.path(state) {
		first, second := v.formula(n.Kids[0], s), v.formula(n.Kids[1], s)
		reached = reached || waiting && second
		waiting = waiting && first
	}
	return reached
}
