package compile

import (
	"slices"

	"armature/api"
	"armature/circuit"
	"armature/count"
)

const (
	maxElements = 64  // of a unary number
	maxOffset   = 200 // of a comparison
)

// integer is an integer: the number of plus, minus that of minus, plus a constant.
type integer struct {
	plus     []api.Ref
	minus    []api.Ref
	constant int
}

// integer translates an integer expression in a state.
func (w *builder) integer(n api.Node, state int) integer {
	switch n.Op {
	case api.OpLit:
		return integer{constant: n.N}
	case api.OpCard:
		m := w.relation(n.Kids[0], state)
		var in []api.Ref
		for _, cell := range m.Cells {
			in = append(in, cell.Ref)
		}
		return integer{plus: w.counted(in)}
	}
	a, b := w.integer(n.Kids[0], state), w.integer(n.Kids[1], state)
	if n.Op == api.OpSub {
		b = integer{plus: b.minus, minus: b.plus, constant: -b.constant}
	}
	return integer{w.sum(a.plus, b.plus), w.sum(a.minus, b.minus), a.constant + b.constant}
}

// counted returns the number of true references by the method that appends fewer gates.
func (w *builder) counted(in []api.Ref) []api.Ref {
	require(len(in) <= maxElements, api.ErrLimit)
	sorted, u := count.Sorter(w.Circuit, in)
	totalized, v := count.Totalizer(w.Circuit, in)
	appended := func(c api.Circuit) int { return len(c.Gates) - len(w.Gates) }
	if complete(v) && (!complete(u) || appended(totalized) < appended(sorted)) {
		return w.unary(totalized, v)
	}
	return w.unary(sorted, u)
}

// complete reports whether no reference of a unary number is missing.
func complete(u []api.Ref) bool {
	return !slices.Contains(u, -1)
}

// unary keeps the circuit that an operation returned, and returns its unary number.
func (w *builder) unary(c api.Circuit, u []api.Ref) []api.Ref {
	w.Circuit = c
	require(complete(u), api.ErrLimit)
	return u
}

// sum returns the sum of two unary numbers.
func (w *builder) sum(a, b []api.Ref) []api.Ref {
	require(len(a)+len(b) <= maxElements, api.ErrLimit)
	return w.unary(count.Add(w.Circuit, a, b))
}

// comparison translates a comparison of two integers.
func (w *builder) comparison(n api.Node, state int) api.Ref {
	a, b := w.integer(n.Kids[0], state), w.integer(n.Kids[1], state)
	left := w.sum(a.plus, b.minus)
	right := w.sum(b.plus, a.minus)
	less := w.less(left, right, b.constant-a.constant)
	if n.Op == api.OpLess {
		return less
	}
	greater := w.less(right, left, a.constant-b.constant)
	return w.and(circuit.Not(less), circuit.Not(greater))
}

// less returns a reference that is true if a is less than b plus by.
func (w *builder) less(a, b []api.Ref, by int) api.Ref {
	by = max(-maxOffset, min(by, maxOffset))
	return w.reference(count.Less(w.Circuit, a, b, by))
}
