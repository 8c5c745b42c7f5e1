// Package decide finds the least satisfying assignment of a formula, or a refutation, with more conflicts than the proof of a single solver has room for.
package decide

import (
	"armature/api"
	"armature/solver"
)

// Result is what is known about a formula.
type Result struct {
	Outcome int
	Values  []bool     // the least satisfying assignment after Sat
	Steps   []api.Step // all clauses that have been learned, in order; after Unsat they end with the empty clause
}

// Formula decides a formula. The outcome is Unknown only after as many conflicts as fuel says.
func Formula(f api.CNF, fuel int) Result {
	var learned []api.Step
	for fuel > 0 {
		s := load(f, learned)
		outcome := s.Solve(nil, fuel)
		steps := s.Proof()
		learned = append(learned, steps...)
		switch outcome {
		case api.Sat:
			return Result{Outcome: outcome, Values: values(s, f.Vars), Steps: learned}
		case api.Unsat:
			return Result{Outcome: outcome, Steps: learned}
		}
		// The solver met one more conflict than it could log. A new one goes on with what the old one learned.
		fuel -= len(steps) + 1
	}
	return Result{Outcome: api.Unknown}
}

// load returns a solver with the clauses of a formula, and as many learned ones as it takes.
func load(f api.CNF, learned []api.Step) *solver.Solver {
	s := solver.New(f.Vars)
	for _, clause := range f.Clauses {
		s.AddClause(clause)
	}
	for _, step := range learned {
		s.AddClause(step.Lits)
	}
	return s
}

// values returns the values of all variables.
func values(s *solver.Solver, vars int) []bool {
	var out []bool
	for v := 1; v <= vars; v++ {
		out = append(out, s.Value(v))
	}
	return out
}
