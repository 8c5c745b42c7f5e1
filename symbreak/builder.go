package symbreak

import (
	"slices"

	"armature/api"
	"armature/circuit"
)

// builder is a circuit that grows. It remembers the references it has asked for, because asking again would change nothing.
type builder struct {
	api.Circuit
	inputs       map[int]api.Ref
	conjunctions map[[2]api.Ref]api.Ref
}

// newBuilder returns a builder that begins with a copy of a circuit.
func newBuilder(c api.Circuit) *builder {
	return &builder{api.Circuit{Gates: slices.Clone(c.Gates)}, map[int]api.Ref{}, map[[2]api.Ref]api.Ref{}}
}

// input returns a reference to a variable.
func (w *builder) input(v int) api.Ref {
	r, ok := w.inputs[v]
	if !ok {
		w.Circuit, r = circuit.Input(w.Circuit, v)
		w.inputs[v] = r
	}
	return r
}

// and returns the conjunction of two references.
func (w *builder) and(a, b api.Ref) api.Ref {
	key := [2]api.Ref{min(a, b), max(a, b)}
	r, ok := w.conjunctions[key]
	if !ok {
		w.Circuit, r = circuit.And(w.Circuit, a, b)
		w.conjunctions[key] = r
	}
	return r
}

// or returns the disjunction of two references.
func (w *builder) or(a, b api.Ref) api.Ref {
	return circuit.Not(w.and(circuit.Not(a), circuit.Not(b)))
}

// predicate returns a reference that is true if an assignment is not greater than its image with respect to some variables.
func (w *builder) predicate(perm, order []int) api.Ref {
	from := origins(perm)
	r := 0
	for _, v := range slices.Backward(order) {
		if from[v-1] == v {
			continue
		}
		a := w.input(v)
		b := w.input(from[v-1])
		greater := w.and(a, circuit.Not(b))
		less := w.and(circuit.Not(a), b)
		r = w.and(circuit.Not(greater), w.or(less, r))
	}
	return r
}
