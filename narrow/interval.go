package narrow

import (
	"strings"

	"armature/api"
	"armature/relation"
	"armature/universe"
)

// narrower holds bounds and computes intervals of expressions. A conflict leaves the recursion as a panic with api.ErrConflict.
type narrower struct {
	sp      api.Spec
	sc      api.Scope
	atoms   int
	env     []api.Param
	bounds  []api.Bound
	global  bool // the current constraint holds in every state
	changed bool // the bounds have changed in this round
}

// newNarrower returns a narrower for bounds and an environment.
func newNarrower(sp api.Spec, sc api.Scope, b []api.Bound, env []api.Param) *narrower {
	return &narrower{sp: sp, sc: sc, atoms: universe.Atoms(sc), bounds: b, env: env}
}

// all returns all tuples of an arity.
func (w *narrower) all(arity int) api.Rel {
	r := api.Rel{Arity: arity}
	count := 1
	for range arity {
		count *= w.atoms
	}
	for rank := range count {
		r.Tuples = append(r.Tuples, rank)
	}
	return r
}

// ends applies a monotone function to both ends of intervals.
func ends(f func(l ...api.Rel) api.Rel, kids ...api.Bound) api.Bound {
	var lower, upper []api.Rel
	for _, kid := range kids {
		lower = append(lower, kid.Lower)
		upper = append(upper, kid.Upper)
	}
	return api.Bound{Lower: f(lower...), Upper: f(upper...)}
}

// fixed returns the interval of a constant.
func fixed(r api.Rel) api.Bound {
	return api.Bound{Lower: r, Upper: r}
}

// interval returns the interval of an expression.
func (w *narrower) interval(n api.Node) api.Bound {
	switch n.Op {
	case api.OpName:
		return w.name(n.Name)
	case api.OpNone:
		return fixed(api.Rel{Arity: n.N})
	case api.OpUniv:
		return fixed(w.all(1))
	case api.OpIden:
		return fixed(relation.Iden(w.atoms))
	case api.OpPrime:
		return w.interval(n.Kids[0])
	case api.OpCompr:
		return api.Bound{Lower: api.Rel{Arity: 1}, Upper: w.interval(n.Kids[0]).Upper}
	}
	var kids []api.Bound
	for _, kid := range n.Kids {
		kids = append(kids, w.interval(kid))
	}
	switch n.Op {
	case api.OpDiff:
		return api.Bound{Lower: relation.Diff(kids[0].Lower, kids[1].Upper), Upper: relation.Diff(kids[0].Upper, kids[1].Lower)}
	case api.OpOverride:
		return api.Bound{
			Lower: relation.Union(kids[1].Lower, w.outside(kids[0].Lower, kids[1].Upper)),
			Upper: relation.Union(kids[1].Upper, w.outside(kids[0].Upper, kids[1].Lower)),
		}
	}
	return ends(w.operation(n.Op), kids...)
}

// operation returns the function of a monotone operator.
func (w *narrower) operation(op int) func(l ...api.Rel) api.Rel {
	return func(l ...api.Rel) api.Rel {
		var r api.Rel
		switch op {
		case api.OpUnion:
			r = relation.Union(l[0], l[1])
		case api.OpInter:
			r = relation.Inter(l[0], l[1])
		case api.OpJoin:
			r, _ = relation.Join(w.atoms, l[0], l[1])
		case api.OpProduct:
			r, _ = relation.Product(w.atoms, l[0], l[1])
		case api.OpTranspose:
			r = relation.Transpose(w.atoms, l[0])
		case api.OpClosure:
			r = relation.Closure(w.atoms, l[0])
		case api.OpReflexive:
			r = relation.Union(relation.Closure(w.atoms, l[0]), relation.Iden(w.atoms))
		}
		return r
	}
}

// outside returns the tuples of a whose first atom is not the first atom of a tuple of b.
func (w *narrower) outside(a, b api.Rel) api.Rel {
	return relation.Diff(relation.Override(w.atoms, a, b), b)
}

// field returns the index of the field with a name, or -1.
func (w *narrower) field(name string) int {
	for i, f := range w.sp.Fields {
		if f.Name == name {
			return i
		}
	}
	return -1
}

// name returns the interval of a name, which denotes exactly one thing.
func (w *narrower) name(name string) api.Bound {
	for i := len(w.env) - 1; i >= 0; i-- {
		if w.env[i].Name == name {
			return api.Bound{Lower: api.Rel{Arity: 1}, Upper: universe.Full(w.sc, []int{w.env[i].Sort})}
		}
	}
	if i := w.field(name); i >= 0 {
		return w.bounds[i]
	}
	for i, s := range w.sp.Sorts {
		rest, ok := strings.CutPrefix(name, s.Name)
		switch {
		case ok && rest == "":
			return fixed(universe.Full(w.sc, []int{i}))
		case ok && rest == "_first" && s.Ordered:
			return fixed(api.Rel{Arity: 1, Tuples: []int{universe.First(w.sc, i)}})
		case ok && rest == "_next" && s.Ordered:
			return fixed(w.successors(i))
		}
	}
	return api.Bound{}
}

// successors returns the pairs of an atom of a sort and the following one.
func (w *narrower) successors(sort int) api.Rel {
	r := api.Rel{Arity: 2}
	for atom := universe.First(w.sc, sort); atom+1 < universe.First(w.sc, sort+1); atom++ {
		r.Tuples = append(r.Tuples, atom*w.atoms+atom+1)
	}
	return r
}
