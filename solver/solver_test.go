package solver_test

import (
	"slices"
	"testing"

	"armature/api"
	"armature/cnf"
	"armature/sample"
	"armature/solver"
	"armature/unitprop"
)

// fuel is enough for all formulas of the tests.
const fuel = 1000000

// load returns a solver with the clauses of a formula.
func load(f api.CNF) *solver.Solver {
	s := solver.New(f.Vars)
	for _, clause := range f.Clauses {
		s.AddClause(clause)
	}
	return s
}

func formula(vars int, clauses ...[]int) api.CNF { return api.CNF{Vars: vars, Clauses: clauses} }

// P21.1: the examples of the chapter.
func TestExamples(t *testing.T) {
	s := load(formula(2, []int{1, 2}, []int{-1, 2}))
	if s.Solve(nil, fuel) != api.Sat || s.Value(1) || !s.Value(2) || len(s.Core()) > 0 || len(s.Proof()) > 0 {
		t.Error("least assignment")
	}
	if s.Solve([]int{-2}, fuel) != api.Unsat || !slices.Equal(s.Core(), []int{-2}) || s.Value(2) {
		t.Error("core")
	}
	if p := s.Proof(); !slices.Equal(p[len(p)-1].Lits, []int{2}) {
		t.Error(p)
	}
	s = load(formula(1, []int{1}, []int{-1}))
	if s.Solve(nil, fuel) != api.Unsat || len(s.Core()) != 0 {
		t.Error("empty core")
	}
	if p := s.Proof(); len(p) != 1 || len(p[0].Lits) != 0 || p[0].Kind != api.StepLearn {
		t.Error(p)
	}
}

// P21.1: arguments out of range.
func TestArguments(t *testing.T) {
	if solver.New(-1) != nil || solver.New(20001) != nil || solver.New(0) == nil || solver.New(20000) == nil {
		t.Error("New")
	}
	s := solver.New(2)
	for _, clause := range [][]int{{0}, {3}, {-3}, {1, 0}, {-1 << 63}} {
		if s.AddClause(clause) {
			t.Errorf("AddClause(%v)", clause)
		}
	}
	if !s.AddClause([]int{1, 1}) || !s.AddClause([]int{2, -2, 2}) || s.Solve(nil, 1) != api.Sat || !s.Value(1) || s.Value(2) {
		t.Error("repeated literals")
	}
	for _, v := range []int{0, -1, 3, 1 << 62} {
		if s.Value(v) {
			t.Errorf("Value(%d)", v)
		}
	}
	for _, assume := range [][]int{{0}, {3}, {1, -3}} {
		if s.Solve(assume, fuel) != api.Unknown || s.Value(1) || len(s.Core()) > 0 {
			t.Errorf("Solve(%v)", assume)
		}
	}
	if s.Solve(nil, 0) != api.Unknown || s.Solve(nil, -5) != api.Unknown {
		t.Error("no fuel")
	}
	if s.Solve([]int{-1}, 1) != api.Unsat || s.Solve([]int{2, 1, 2}, 1) != api.Sat || len(s.Core()) > 0 || !s.Value(2) {
		t.Error("assumptions")
	}
	if s.Solve([]int{2, -2}, 1) != api.Unsat || len(s.Core()) != 2 {
		t.Error("contradictory assumptions", s.Core())
	}
	if !s.AddClause(nil) || s.Solve(nil, 1) != api.Unsat || s.Solve([]int{2}, 1) != api.Unsat || len(s.Core()) != 0 {
		t.Error("the empty clause")
	}
	if len(s.Proof()) != 4 {
		t.Error(s.Proof())
	}
	if s := solver.New(0); s.Solve(nil, 1) != api.Sat || !s.AddClause([]int{}) || s.Solve(nil, 1) != api.Unsat {
		t.Error("no variables")
	}
}

// P21.1: the limit of the number of clauses.
func TestClauseLimit(t *testing.T) {
	s := solver.New(1)
	for i := range api.MaxClauses {
		if !s.AddClause([]int{1, -1}) {
			t.Fatal(i)
		}
	}
	if s.AddClause([]int{-1}) || s.Solve([]int{1}, fuel) != api.Sat {
		t.Error("a clause above the limit")
	}
}

// least returns the lexicographically least assignment that satisfies a formula and makes some literals true.
func least(f api.CNF, assume []int) ([]bool, bool) {
	for bits := range 1 << f.Vars {
		values := make([]bool, f.Vars)
		for i := range values {
			values[i] = bits>>(f.Vars-1-i)&1 == 1
		}
		fits := !slices.ContainsFunc(assume, func(x int) bool { return values[max(x, -x)-1] != (x > 0) })
		if fits && cnf.Satisfies(f, values) {
			return values, true
		}
	}
	return nil, false
}

// justified reports whether all steps from a number on follow from a formula and the steps before them.
func justified(f api.CNF, l []api.Step, from int) bool {
	all := api.CNF{Vars: f.Vars, Clauses: slices.Clone(f.Clauses)}
	for i, step := range l {
		if step.Kind != api.StepLearn || step.Sym != 0 || i >= from && !unitprop.Implies(all, step.Lits) {
			return false
		}
		all.Clauses = append(all.Clauses, step.Lits)
	}
	return true
}

// P21.1 to P21.7 on sampled formulas that grow.
func TestRandom(t *testing.T) {
	s := sample.New(1)
	outcomes := map[int]int{}
	for range 1200 {
		vars := s.Between(1, 7)
		f := formula(vars)
		a, b := solver.New(vars), solver.New(vars)
		checked := 0
		for range s.Between(1, 6) {
			for range s.Below(3 * vars) {
				clause := s.Clause(vars, 3)
				f.Clauses = append(f.Clauses, clause)
				if !a.AddClause(clause) || !b.AddClause(clause) {
					t.Fatal(clause)
				}
			}
			var assume []int
			for range s.Below(4) {
				assume = append(assume, s.Literal(vars))
			}
			amount := sample.Pick(s, []int{fuel, fuel, 6561, 1, 2})
			got := a.Solve(assume, amount)
			outcomes[got]++
			if got == api.Unknown {
				if amount > 2 {
					t.Fatalf("%v, %v: unknown", f, assume)
				}
				got = a.Solve(assume, fuel)
				b.Solve(assume, amount)
			}
			if b.Solve(assume, fuel) != got || !slices.Equal(a.Core(), b.Core()) {
				t.Fatalf("%v, %v: not deterministic", f, assume)
			}
			checkOutcome(t, f, assume, a, got)
			proof := a.Proof()
			if !justified(f, proof, checked) || !slices.EqualFunc(proof, b.Proof(), func(x, y api.Step) bool { return slices.Equal(x.Lits, y.Lits) }) {
				t.Fatalf("%v, %v: proof %v", f, assume, proof)
			}
			checked = len(proof)
		}
	}
	if outcomes[api.Sat] < 100 || outcomes[api.Unsat] < 100 || outcomes[api.Unknown] < 1 {
		t.Errorf("%v", outcomes)
	}
}

// checkOutcome compares an outcome with all assignments.
func checkOutcome(t *testing.T, f api.CNF, assume []int, s *solver.Solver, got int) {
	t.Helper()
	want, possible := least(f, assume)
	if possible != (got == api.Sat) {
		t.Fatalf("%v, %v: outcome %d", f, assume, got)
	}
	for v := 1; v <= f.Vars; v++ {
		if s.Value(v) != (possible && want[v-1]) {
			t.Fatalf("%v, %v: variable %d", f, assume, v)
		}
	}
	core := s.Core()
	if got == api.Sat {
		if len(core) > 0 {
			t.Fatalf("%v, %v: core %v", f, assume, core)
		}
		return
	}
	for i, x := range core {
		if !slices.Contains(assume, x) || slices.Contains(core[:i], x) {
			t.Fatalf("%v, %v: core %v", f, assume, core)
		}
	}
	if _, possible := least(f, core); possible {
		t.Fatalf("%v, %v: core %v", f, assume, core)
	}
	proof := s.Proof()
	last := proof[len(proof)-1].Lits
	if !slices.EqualFunc(last, core, func(x, y int) bool { return x == -y }) {
		t.Fatalf("%v, %v: core %v, last step %v", f, assume, core, last)
	}
}

// pigeons returns a formula that states that n + 1 pigeons fit into n holes.
func pigeons(n int) api.CNF {
	f := formula((n + 1) * n)
	at := func(pigeon, hole int) int { return pigeon*n + hole + 1 }
	for p := range n + 1 {
		var clause []int
		for h := range n {
			clause = append(clause, at(p, h))
			for q := range p {
				f.Clauses = append(f.Clauses, []int{-at(p, h), -at(q, h)})
			}
		}
		f.Clauses = append(f.Clauses, clause)
	}
	return f
}

// P21.1, P21.4, P21.7: a formula that needs many conflicts, with little fuel again and again.
func TestHard(t *testing.T) {
	f := pigeons(5)
	s := load(f)
	calls := 0
	for s.Solve(nil, 20) == api.Unknown {
		calls++
		if calls > 1000 {
			t.Fatal("no end")
		}
	}
	if calls == 0 || len(s.Core()) != 0 || !justified(f, s.Proof(), 0) {
		t.Errorf("%d calls, core %v", calls, s.Core())
	}
	if r := load(f); r.Solve(nil, fuel) != api.Unsat {
		t.Error("with much fuel")
	}
}

// P21.1: a proof never has more steps than the limit.
func TestProofLimit(t *testing.T) {
	s := load(formula(1, []int{1}))
	for range api.MaxProof {
		if s.Solve([]int{-1}, fuel) != api.Unsat {
			t.Fatal("not refuted")
		}
	}
	if s.Solve([]int{-1}, fuel) != api.Unknown || len(s.Core()) > 0 || len(s.Proof()) != api.MaxProof || s.Solve(nil, fuel) != api.Sat {
		t.Error("a full proof")
	}
}

// Results are independent of the solver.
func TestMemory(t *testing.T) {
	s := load(formula(1, []int{1}))
	clause := []int{1, 1}
	s.AddClause(clause)
	clause[0] = -1
	s.Solve([]int{-1}, fuel)
	core, proof := s.Core(), s.Proof()
	core[0], proof[0].Lits[0] = 7, 7
	if s.Core()[0] != -1 || s.Proof()[0].Lits[0] != 1 || s.Solve(nil, fuel) != api.Sat {
		t.Error("results share memory")
	}
}
