package decide

import (
	"slices"
	"testing"

	"armature/api"
	"armature/checker"
	"armature/cnf"
	"armature/sample"
	"armature/solver"
)

// random returns a formula with three literals in each clause.
func random(s *sample.Source, vars, clauses int) api.CNF {
	f := api.CNF{Vars: vars}
	for range clauses {
		f.Clauses = append(f.Clauses, []int{s.Literal(vars), s.Literal(vars), s.Literal(vars)})
	}
	return f
}

// Small formulas are decided like by a single solver.
func TestSmall(t *testing.T) {
	s := sample.New(1)
	outcomes := map[int]int{}
	for range 500 {
		f := random(s, 8, s.Between(20, 45))
		got := Formula(f, 10000)
		single := solver.New(8)
		for _, clause := range f.Clauses {
			single.AddClause(clause)
		}
		outcomes[got.Outcome]++
		if got.Outcome != single.Solve(nil, 10000) {
			t.Fatalf("%v: %d", f, got.Outcome)
		}
		if got.Outcome == api.Sat && !cnf.Satisfies(f, got.Values) || got.Outcome == api.Unsat && (len(got.Values) > 0 || !checker.Refutes(f, nil, got.Steps)) {
			t.Fatalf("%v: %v", f, got)
		}
		for v, value := range got.Values {
			if value != single.Value(v+1) {
				t.Fatalf("%v: variable %d", f, v+1)
			}
		}
	}
	if outcomes[api.Sat] < 50 || outcomes[api.Unsat] < 50 {
		t.Error(outcomes)
	}
	if got := Formula(api.CNF{}, 0); got.Outcome != api.Unknown || got.Steps != nil {
		t.Error(got)
	}
}

// A formula that needs more conflicts than a single proof has steps is decided, and little fuel is used up.
func TestLarge(t *testing.T) {
	s := sample.New(5)
	for _, vars := range []int{120, 120, 120, 120, 140, 140, 140, 140, 150} {
		random(s, vars, vars*43/10) // the formula after these is a hard one
	}
	f := random(s, 150, 645)
	got := Formula(f, 100000)
	if got.Outcome != api.Unsat || len(got.Steps) <= api.MaxProof {
		t.Fatalf("outcome %d with %d steps", got.Outcome, len(got.Steps))
	}
	if len(got.Steps[len(got.Steps)-1].Lits) != 0 || slices.ContainsFunc(got.Steps, func(x api.Step) bool { return x.Kind != api.StepLearn }) {
		t.Error("the steps are no proof")
	}
	if got := Formula(f, 100); got.Outcome != api.Unknown {
		t.Errorf("little fuel: %d", got.Outcome)
	}
}
