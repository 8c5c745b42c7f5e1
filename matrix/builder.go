package matrix

import (
	"iter"

	"armature/api"
	"armature/gates"
)

// absent is the reference of a tuple without a cell: the constant false.
const absent api.Ref = 1

// builder embeds the circuit that grows.
type builder struct {
	*gates.Growing
}

// newBuilder returns a builder that begins with a circuit.
func newBuilder(c api.Circuit) *builder {
	return &builder{gates.From(c)}
}

// algebra is a builder for operations that depend on the number of atoms.
type algebra struct {
	*builder
	atoms int
}

// newAlgebra returns an algebra that begins with a circuit.
func newAlgebra(c api.Circuit, n int) *algebra {
	return &algebra{newBuilder(c), n}
}

// power returns the number of tuples of an arity.
func (w *algebra) power(arity int) int {
	value := 1
	for range arity {
		value *= w.atoms
	}
	return value
}

// fold applies an operation to a reference and each element of a list, one after the other.
func fold(operation func(a, b api.Ref) api.Ref, r api.Ref, l []api.Ref) api.Ref {
	for _, x := range l {
		r = operation(r, x)
	}
	return r
}

// kept appends a cell unless its reference is the constant false.
func kept(cells []api.Cell, rank int, r api.Ref) []api.Cell {
	if r == absent {
		return cells
	}
	return append(cells, api.Cell{Rank: rank, Ref: r})
}

// pair says which of two matrices have a cell with some rank, and gives its references.
type pair struct {
	a, b     api.Ref
	inA, inB bool
}

// merged yields the ranks that occur in one of two matrices, in increasing order.
func merged(a, b api.Matrix) iter.Seq2[int, pair] {
	return func(yield func(int, pair) bool) {
		x, y := a.Cells, b.Cells
		for len(x) > 0 || len(y) > 0 {
			p := pair{a: absent, b: absent}
			p.inA = len(y) == 0 || len(x) > 0 && x[0].Rank <= y[0].Rank
			p.inB = len(x) == 0 || len(y) > 0 && y[0].Rank <= x[0].Rank
			var rank int
			if p.inA {
				rank, p.a, x = x[0].Rank, x[0].Ref, x[1:]
			}
			if p.inB {
				rank, p.b, y = y[0].Rank, y[0].Ref, y[1:]
			}
			if !yield(rank, p) {
				return
			}
		}
	}
}
