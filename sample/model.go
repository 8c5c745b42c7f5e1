package sample

import (
	"slices"

	"armature/api"
)

// Scope returns a scope for a specification with at most the given number of atoms for each sort, and at most the given number of states.
func (s *Source) Scope(sp api.Spec, atoms, steps int) api.Scope {
	sc := api.Scope{Steps: s.Between(1, steps)}
	for range sp.Sorts {
		sc.Atoms = append(sc.Atoms, s.Between(1, atoms))
	}
	return sc
}

// full returns the ranks of all tuples over columns of the given sorts.
func full(sc api.Scope, sorts []int) []int {
	n := 0
	for _, size := range sc.Atoms {
		n += size
	}
	ranks := []int{0}
	for _, sort := range sorts {
		first := 0
		for _, size := range sc.Atoms[:sort] {
			first += size
		}
		var longer []int
		for _, rank := range ranks {
			for i := range sc.Atoms[sort] {
				longer = append(longer, rank*n+first+i)
			}
		}
		ranks = longer
	}
	return ranks
}

// Subset returns some of the elements of a list, in the given percentage of cases.
func Subset[T any](s *Source, l []T, percent int) []T {
	var out []T
	for _, x := range l {
		if s.Chance(percent) {
			out = append(out, x)
		}
	}
	return out
}

// Bounds returns bounds with at most the given number of variables: free tuples count once for each state in which they can differ.
func (s *Source) Bounds(sp api.Spec, sc api.Scope, variables int) []api.Bound {
	var out []api.Bound
	for _, f := range sp.Fields {
		b := api.Bound{Lower: api.Rel{Arity: len(f.Sorts)}, Upper: api.Rel{Arity: len(f.Sorts)}}
		all := full(sc, f.Sorts)
		if s.Chance(50) {
			all = Subset(s, all, 80)
		}
		cost := 1
		if f.Var {
			cost = sc.Steps
		}
		chosen := Shuffle(s, all)
		for _, rank := range chosen {
			free := s.Chance(80) && variables >= cost
			if free {
				variables -= cost
			}
			if free || s.Chance(40) {
				b.Upper.Tuples = append(b.Upper.Tuples, rank)
				if !free {
					b.Lower.Tuples = append(b.Lower.Tuples, rank)
				}
			}
		}
		slices.Sort(b.Upper.Tuples)
		slices.Sort(b.Lower.Tuples)
		out = append(out, b)
	}
	return out
}

// Everything returns the bounds that permit everything.
func Everything(sp api.Spec, sc api.Scope) []api.Bound {
	var out []api.Bound
	for _, f := range sp.Fields {
		out = append(out, api.Bound{Lower: api.Rel{Arity: len(f.Sorts)}, Upper: api.Rel{Arity: len(f.Sorts), Tuples: full(sc, f.Sorts)}})
	}
	return out
}

// Model returns a model within bounds.
func (s *Source) Model(sp api.Spec, sc api.Scope, b []api.Bound) api.Model {
	m := api.Model{Scope: api.Scope{Atoms: slices.Clone(sc.Atoms), Steps: sc.Steps}, Loop: s.Below(sc.Steps)}
	percent := Pick(s, []int{20, 50, 80})
	for i := range sc.Steps {
		var state []api.Rel
		for j, f := range sp.Fields {
			r := api.Rel{Arity: b[j].Upper.Arity}
			for _, rank := range b[j].Upper.Tuples {
				if slices.Contains(b[j].Lower.Tuples, rank) || s.Chance(percent) {
					r.Tuples = append(r.Tuples, rank)
				}
			}
			if i > 0 && (!f.Var || s.Chance(30)) {
				r.Tuples = slices.Clone(m.States[i-1][j].Tuples)
			}
			state = append(state, r)
		}
		m.States = append(m.States, state)
	}
	return m
}
