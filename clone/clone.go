// Package clone copies values of package api, so that results share no memory with arguments or with each other.
package clone

import (
	"slices"

	"armature/api"
)

// Slice returns a slice of copies that f makes of the elements.
func Slice[T any](l []T, f func(T) T) []T {
	var out []T
	for _, x := range l {
		out = append(out, f(x))
	}
	return out
}

// Node copies a tree.
func Node(n api.Node) api.Node {
	n.Kids = Slice(n.Kids, Node)
	return n
}

// Scope copies a scope.
func Scope(sc api.Scope) api.Scope {
	return api.Scope{Atoms: slices.Clone(sc.Atoms), Steps: sc.Steps}
}

// Rel copies a relation.
func Rel(r api.Rel) api.Rel {
	return api.Rel{Arity: r.Arity, Tuples: slices.Clone(r.Tuples)}
}

// State copies the relations of a state.
func State(state []api.Rel) []api.Rel {
	return Slice(state, Rel)
}

// Model copies a model.
func Model(m api.Model) api.Model {
	return api.Model{Scope: Scope(m.Scope), States: Slice(m.States, State), Loop: m.Loop}
}

// Models copies a list of models.
func Models(l []api.Model) []api.Model {
	return Slice(l, Model)
}

// Bound copies the bounds of a field.
func Bound(b api.Bound) api.Bound {
	return api.Bound{Lower: Rel(b.Lower), Upper: Rel(b.Upper)}
}

// Bounds copies the bounds of all fields.
func Bounds(b []api.Bound) []api.Bound {
	return Slice(b, Bound)
}

// Ints copies a list of numbers.
func Ints(l []int) []int {
	return slices.Clone(l)
}

// Lists copies a list of lists of numbers.
func Lists(l [][]int) [][]int {
	return Slice(l, Ints)
}

// Spec copies a specification.
func Spec(sp api.Spec) api.Spec {
	return api.Spec{
		Sorts:  slices.Clone(sp.Sorts),
		Fields: Slice(sp.Fields, Field),
		Preds:  Slice(sp.Preds, Pred),
		Facts:  Slice(sp.Facts, Fact),
	}
}

// Field copies a field.
func Field(f api.Field) api.Field {
	return api.Field{Name: f.Name, Sorts: slices.Clone(f.Sorts), Var: f.Var}
}

// Pred copies a predicate.
func Pred(q api.Pred) api.Pred {
	return api.Pred{Name: q.Name, Params: slices.Clone(q.Params), Body: Node(q.Body)}
}

// Fact copies a fact.
func Fact(f api.Fact) api.Fact {
	return api.Fact{Name: f.Name, Body: Node(f.Body)}
}
