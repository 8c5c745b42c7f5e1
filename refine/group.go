package refine

import (
	"slices"

	"armature/api"
	"armature/universe"
)

// pattern is a relation that a permutation must map to itself.
type pattern struct {
	contains map[int]bool
	tuples   [][][]int // for each atom, the tuples whose greatest atom it is
}

// newPattern returns the pattern of a relation.
func newPattern(sc api.Scope, r api.Rel) pattern {
	out := pattern{contains: map[int]bool{}, tuples: make([][][]int, universe.Atoms(sc))}
	for _, rank := range r.Tuples {
		out.contains[rank] = true
		if tuple := universe.Tuple(sc, r.Arity, rank); len(tuple) > 0 {
			last := slices.Max(tuple)
			out.tuples[last] = append(out.tuples[last], tuple)
		}
	}
	return out
}

// permits reports whether the images of all tuples whose greatest atom is last are in the relation. Since a permutation is injective, a relation that is mapped into itself is mapped to itself.
func (x pattern) permits(p []int, last int) bool {
	for _, tuple := range x.tuples[last] {
		rank := 0
		for _, atom := range tuple {
			rank = rank*len(x.tuples) + p[atom]
		}
		if !x.contains[rank] {
			return false
		}
	}
	return true
}

// Group returns all symmetries of the bounds; there are none for a scope that is not valid.
func Group(sp api.Spec, sc api.Scope, b []api.Bound) [][]int {
	if !universe.Valid(sp, sc) {
		return nil
	}
	class := classes(sp, sc, b)
	var patterns []pattern
	for _, r := range relations(b) {
		patterns = append(patterns, newPattern(sc, r))
	}
	var out [][]int
	p := make([]int, len(class))
	used := func(count, y int) bool {
		for earlier := range count {
			if p[earlier] == y {
				return true
			}
		}
		return false
	}
	// extend tries all images of an atom, after those of the earlier atoms have been chosen.
	var extend func(x int)
	extend = func(x int) {
		if x == len(p) {
			out = append(out, slices.Clone(p))
			return
		}
		for y := range p {
			p[x] = y
			refused := func(r pattern) bool { return !r.permits(p, x) }
			if class[y] == class[x] && !used(x, y) && !slices.ContainsFunc(patterns, refused) {
				extend(x + 1)
			}
		}
	}
	extend(0)
	return out
}
