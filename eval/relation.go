package eval

import (
	"strings"

	"armature/api"
	"armature/model"
	"armature/relation"
	"armature/universe"
)

// pairOperators returns the operators on two relations.
func pairOperators() map[int]func(*evaluator, api.Rel, api.Rel) api.Rel {
	return map[int]func(*evaluator, api.Rel, api.Rel) api.Rel{
		api.OpUnion:    (*evaluator).union,
		api.OpInter:    (*evaluator).inter,
		api.OpDiff:     (*evaluator).diff,
		api.OpOverride: (*evaluator).override,
		api.OpJoin:     (*evaluator).join,
		api.OpProduct:  (*evaluator).product,
	}
}

// relation returns the value of a relational expression in a state.
func (v *evaluator) relation(n api.Node, state int) api.Rel {
	if apply, ok := v.pairs[n.Op]; ok {
		a, b := v.relation(n.Kids[0], state), v.relation(n.Kids[1], state)
		return apply(v, a, b)
	}
	switch n.Op {
	case api.OpName:
		return v.name(n.Name, state)
	case api.OpNone:
		return api.Rel{Arity: n.N}
	case api.OpUniv:
		return v.univ()
	case api.OpIden:
		return relation.Iden(v.atoms)
	case api.OpPrime:
		return v.relation(n.Kids[0], model.Next(v.Model, state))
	case api.OpCompr:
		return v.comprehension(n, state)
	}
	a := v.relation(n.Kids[0], state)
	require(a.Arity == 2, api.ErrArity)
	switch n.Op {
	case api.OpTranspose:
		return relation.Transpose(v.atoms, a)
	case api.OpClosure:
		return relation.Closure(v.atoms, a)
	default:
		return relation.Union(relation.Closure(v.atoms, a), relation.Iden(v.atoms))
	}
}

// name returns the relation that a name denotes in a state.
func (v *evaluator) name(name string, state int) api.Rel {
	for i := len(v.env) - 1; i >= 0; i-- {
		if v.env[i].Name == name {
			return api.Rel{Arity: 1, Tuples: []int{v.env[i].Atom}}
		}
	}
	var found []api.Rel
	for i, f := range v.sp.Fields {
		if f.Name == name {
			found = append(found, v.States[state][i])
		}
	}
	for i, s := range v.sp.Sorts {
		rest, ok := strings.CutPrefix(name, s.Name)
		switch {
		case ok && rest == "":
			found = append(found, universe.Full(v.Scope, []int{i}))
		case ok && rest == "_first" && s.Ordered:
			found = append(found, api.Rel{Arity: 1, Tuples: []int{universe.First(v.Scope, i)}})
		case ok && rest == "_next" && s.Ordered:
			found = append(found, v.successors(i))
		}
	}
	require(len(found) > 0, api.ErrName)
	require(len(found) == 1, api.ErrAmbiguous)
	return found[0]
}

// successors returns the pairs of an atom of a sort and the following one.
func (v *evaluator) successors(sort int) api.Rel {
	r := api.Rel{Arity: 2}
	first := universe.First(v.Scope, sort)
	for atom := first; atom+1 < universe.First(v.Scope, sort+1); atom++ {
		r.Tuples = append(r.Tuples, universe.Rank(v.Scope, []int{atom, atom + 1}))
	}
	return r
}

// univ returns the unary relation of all atoms.
func (v *evaluator) univ() api.Rel {
	r := api.Rel{Arity: 1}
	for atom := range v.atoms {
		r.Tuples = append(r.Tuples, atom)
	}
	return r
}

// comprehension returns the atoms of a domain for which a formula is true.
func (v *evaluator) comprehension(n api.Node, state int) api.Rel {
	r := api.Rel{Arity: 1}
	v.each(n, state, func(atom int, holds bool) {
		if holds {
			r.Tuples = append(r.Tuples, atom)
		}
	})
	return r
}

// union is the operator OpUnion.
func (v *evaluator) union(a, b api.Rel) api.Rel {
	require(a.Arity == b.Arity, api.ErrArity)
	return relation.Union(a, b)
}

// inter is the operator OpInter.
func (v *evaluator) inter(a, b api.Rel) api.Rel {
	require(a.Arity == b.Arity, api.ErrArity)
	return relation.Inter(a, b)
}

// diff is the operator OpDiff.
func (v *evaluator) diff(a, b api.Rel) api.Rel {
	require(a.Arity == b.Arity, api.ErrArity)
	return relation.Diff(a, b)
}

// override is the operator OpOverride.
func (v *evaluator) override(a, b api.Rel) api.Rel {
	require(a.Arity == b.Arity, api.ErrArity)
	return relation.Override(v.atoms, a, b)
}

// join is the operator OpJoin.
func (v *evaluator) join(a, b api.Rel) api.Rel {
	r, e := relation.Join(v.atoms, a, b)
	require(e == api.OK, e)
	return r
}

// product is the operator OpProduct.
func (v *evaluator) product(a, b api.Rel) api.Rel {
	r, e := relation.Product(v.atoms, a, b)
	require(e == api.OK, e)
	return r
}
