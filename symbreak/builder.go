package symbreak

import (
	"slices"

	"armature/api"
	"armature/circuit"
	"armature/gates"
)

// builder embeds the circuit that grows.
type builder struct {
	*gates.Growing
}

// newBuilder returns a builder that begins with a circuit.
func newBuilder(c api.Circuit) *builder {
	return &builder{gates.From(c)}
}

// predicate returns a reference that is true if an assignment is not greater than its image with respect to some variables.
func (w *builder) predicate(perm, order []int) api.Ref {
	from := origins(perm)
	r := 0
	for _, v := range slices.Backward(order) {
		if from[v-1] == v {
			continue
		}
		a := w.Input(v)
		b := w.Input(from[v-1])
		greater := w.And(a, circuit.Not(b))
		less := w.And(circuit.Not(a), b)
		r = w.And(circuit.Not(greater), w.Or(less, r))
	}
	return r
}
