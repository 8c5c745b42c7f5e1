package project

import (
	"slices"

	"armature/api"
	"armature/bounds"
	"armature/cnf"
	"armature/lasso"
	"armature/solver"
)

// fuel bounds the conflicts of a search.
const fuel = 100000

// search looks for models with different projections.
type search struct {
	*solver.Solver
	sp       api.Spec
	sc       api.Scope
	bounds   []api.Bound
	inputs   int
	relevant []int // the variables that a projection depends on
	failure  api.Errno
}

// newSearch returns a search for the models of a formula up to their projections to some fields.
func newSearch(sp api.Spec, sc api.Scope, b []api.Bound, n api.Node, fields []int) (*search, api.Errno) {
	c, r, e := lasso.Problem(sp, sc, b, n)
	if e != api.OK {
		return nil, e
	}
	inputs := lasso.Inputs(sp, sc, b)
	f := cnf.Tseitin(c, r, inputs)
	if f.Vars > api.MaxVars || len(f.Clauses) > api.MaxClauses {
		return nil, api.ErrLimit
	}
	s := &search{Solver: solver.New(f.Vars), sp: sp, sc: sc, bounds: b, inputs: inputs, relevant: relevant(sp, sc, b, fields)}
	for _, clause := range f.Clauses {
		s.AddClause(clause)
	}
	return s, api.OK
}

// relevant returns the variables that select the loop, and those of the tuples of some fields.
func relevant(sp api.Spec, sc api.Scope, b []api.Bound, fields []int) []int {
	if len(b) != len(sp.Fields) {
		return nil
	}
	var out []int
	v := 0
	next := func(isRelevant bool) {
		v++
		if isRelevant {
			out = append(out, v)
		}
	}
	if sc.Steps > 1 {
		for range sc.Steps {
			next(true)
		}
	}
	for state := range sc.Steps {
		for _, x := range bounds.Free(b) {
			if state == 0 || sp.Fields[x[0]].Var {
				next(slices.Contains(fields, x[0]))
			}
		}
	}
	return out
}

// models yields the first model, the first one with another projection, and so on. It ends with a failure if the solver gives up or there are too many clauses.
func (s *search) models(yield func(api.Model) bool) {
	block := s.block
	for {
		switch s.Solve(nil, fuel) {
		case api.Unsat:
			return
		case api.Unknown:
			s.failure = api.ErrFuel
			return
		}
		var values []bool
		for v := 1; v <= s.inputs; v++ {
			values = append(values, s.Value(v))
		}
		if !yield(lasso.Decode(s.sp, s.sc, s.bounds, values)) {
			return
		}
		if !block(values) {
			s.failure = api.ErrLimit
			return
		}
	}
}

// block excludes the projection of an assignment; it fails if there are too many clauses.
func (s *search) block(values []bool) bool {
	var clause []int
	for _, v := range s.relevant {
		if values[v-1] {
			clause = append(clause, -v)
		} else {
			clause = append(clause, v)
		}
	}
	return s.AddClause(clause)
}
