package compile

import (
	"strings"

	"armature/api"
	"armature/closure"
	"armature/matrix"
	"armature/universe"
)

// pairOperator translates an operator on two relations.
type pairOperator struct {
	fits  func(a, b int) bool // whether relations of two arities are permitted
	apply func(c api.Circuit, n int, a, b api.Matrix) (api.Circuit, api.Matrix)
}

// pairOperators returns the operators on two relations.
func pairOperators() map[int]pairOperator {
	same := func(a, b int) bool { return a == b }
	without := func(f func(api.Circuit, api.Matrix, api.Matrix) (api.Circuit, api.Matrix)) func(api.Circuit, int, api.Matrix, api.Matrix) (api.Circuit, api.Matrix) {
		return func(c api.Circuit, _ int, a, b api.Matrix) (api.Circuit, api.Matrix) { return f(c, a, b) }
	}
	return map[int]pairOperator{
		api.OpUnion:    {same, without(matrix.Union)},
		api.OpInter:    {same, without(matrix.Inter)},
		api.OpDiff:     {same, without(matrix.Diff)},
		api.OpOverride: {same, matrix.Override},
		api.OpJoin:     {func(a, b int) bool { return 1 <= a+b-2 && a+b-2 <= api.MaxArity }, matrix.Join},
		api.OpProduct:  {func(a, b int) bool { return a+b <= api.MaxArity }, matrix.Product},
	}
}

// relation translates a relational expression in a state.
func (w *builder) relation(n api.Node, state int) api.Matrix {
	if o, ok := w.pairs[n.Op]; ok {
		a, b := w.relation(n.Kids[0], state), w.relation(n.Kids[1], state)
		require(o.fits(a.Arity, b.Arity), api.ErrArity)
		return w.matrix(o.apply(w.Circuit, w.atoms, a, b))
	}
	switch n.Op {
	case api.OpName:
		return w.name(n.Name, state)
	case api.OpNone:
		return api.Matrix{Arity: n.N}
	case api.OpUniv:
		return matrix.Const(w.diagonal(1))
	case api.OpIden:
		return matrix.Const(w.diagonal(2))
	case api.OpPrime:
		return w.relation(n.Kids[0], w.next(state))
	case api.OpCompr:
		return w.comprehension(n, state)
	}
	a := w.relation(n.Kids[0], state)
	require(a.Arity == 2, api.ErrArity)
	if n.Op == api.OpTranspose {
		return matrix.Transpose(w.atoms, a)
	}
	a = w.matrix(closure.Smaller(w.Circuit, w.atoms, a))
	if n.Op == api.OpReflexive {
		a = w.matrix(matrix.Union(w.Circuit, a, matrix.Const(w.diagonal(2))))
	}
	return a
}

// diagonal returns the relation with the tuples that repeat an atom as often as the arity says.
func (w *builder) diagonal(arity int) api.Rel {
	r := api.Rel{Arity: arity}
	for atom := range w.atoms {
		r.Tuples = append(r.Tuples, universe.Rank(w.sc, []int{atom, atom}[:arity]))
	}
	return r
}

// name returns the matrix that a name denotes in a state.
func (w *builder) name(name string, state int) api.Matrix {
	for i := len(w.env) - 1; i >= 0; i-- {
		if w.env[i].Name == name {
			return matrix.Const(api.Rel{Arity: 1, Tuples: []int{w.env[i].Atom}})
		}
	}
	var found []api.Matrix
	for i, f := range w.sp.Fields {
		if f.Name == name {
			found = append(found, w.states[state][i])
		}
	}
	for i, s := range w.sp.Sorts {
		rest, ok := strings.CutPrefix(name, s.Name)
		switch {
		case ok && rest == "":
			found = append(found, matrix.Const(universe.Full(w.sc, []int{i})))
		case ok && rest == "_first" && s.Ordered:
			found = append(found, matrix.Const(api.Rel{Arity: 1, Tuples: []int{universe.First(w.sc, i)}}))
		case ok && rest == "_next" && s.Ordered:
			found = append(found, matrix.Const(w.successors(i)))
		}
	}
	require(len(found) > 0, api.ErrName)
	require(len(found) == 1, api.ErrAmbiguous)
	return found[0]
}

// successors returns the pairs of an atom of a sort and the following one.
func (w *builder) successors(sort int) api.Rel {
	r := api.Rel{Arity: 2}
	for atom := universe.First(w.sc, sort); atom+1 < universe.First(w.sc, sort+1); atom++ {
		r.Tuples = append(r.Tuples, universe.Rank(w.sc, []int{atom, atom + 1}))
	}
	return r
}

// comprehension translates a comprehension.
func (w *builder) comprehension(n api.Node, state int) api.Matrix {
	m := api.Matrix{Arity: 1}
	w.each(n, state, func(cell api.Cell, formula api.Ref) {
		if r := w.and(cell.Ref, formula); r != no {
			m.Cells = append(m.Cells, api.Cell{Rank: cell.Rank, Ref: r})
		}
	})
	return m
}
