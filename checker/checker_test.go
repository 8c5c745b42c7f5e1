package checker

import (
	"slices"
	"testing"

	"armature/api"
	"armature/cnf"
	"armature/sample"
	"armature/solver"
	"armature/unitprop"
)

func formula(vars int, clauses ...[]int) api.CNF { return api.CNF{Vars: vars, Clauses: clauses} }

func learn(lits ...int) api.Step  { return api.Step{Kind: api.StepLearn, Lits: lits} }
func remove(lits ...int) api.Step { return api.Step{Kind: api.StepDelete, Lits: lits} }
func define(lits ...int) api.Step { return api.Step{Kind: api.StepDefine, Lits: lits} }
func symmetry(sym int, lits ...int) api.Step {
	return api.Step{Kind: api.StepSymmetry, Lits: lits, Sym: sym}
}

// square is a formula without a satisfying assignment.
var square = formula(2, []int{1, 2}, []int{1, -2}, []int{-1, 2}, []int{-1, -2})

// P23.1: justified steps, and each way in which a step is not justified.
func TestCheck(t *testing.T) {
	both := formula(2, []int{1, -2}, []int{-1, 2})
	swap, flip := []int{2, 1}, []int{-1, -2}
	for i, x := range []struct {
		f    api.CNF
		syms [][]int
		l    []api.Step
		want int
		e    api.Errno
	}{
		{square, nil, []api.Step{learn(1), learn()}, 2, api.OK}, {formula(2, []int{1, 2}), nil, []api.Step{learn(1)}, 0, api.ErrProof}, {both, [][]int{swap}, []api.Step{symmetry(0, 2, -1)}, 1, api.OK}, {square, nil, nil, 0, api.OK},
		{square, nil, []api.Step{learn()}, 0, api.ErrProof}, {square, nil, []api.Step{learn(1), remove(1), learn()}, 2, api.ErrProof}, {square, nil, []api.Step{learn(1, -1), learn(2, 2, -1, 1)}, 2, api.OK}, {square, nil, []api.Step{learn(3)}, 0, api.ErrProof},
		{square, nil, []api.Step{learn(3, -3)}, 0, api.ErrProof}, {square, nil, []api.Step{learn(0)}, 0, api.ErrProof}, {square, nil, []api.Step{{Kind: api.StepLearn, Lits: []int{1}, Sym: 1}}, 0, api.ErrProof}, {square, nil, []api.Step{{Kind: 7}}, 0, api.ErrProof}, {square, nil, []api.Step{{}}, 0, api.ErrProof},
		{square, nil, []api.Step{remove(2, 1, 2), remove(1, 2)}, 1, api.ErrProof}, {formula(2, []int{1, 2}, []int{2, 1, 1}), nil, []api.Step{remove(1, 2), remove(1, 2), remove(1, 2)}, 2, api.ErrProof}, {square, nil, []api.Step{remove(1)}, 0, api.ErrProof},
		{square, nil, []api.Step{{Kind: api.StepDelete, Lits: []int{1, 2}, Sym: 1}}, 0, api.ErrProof}, {square, nil, []api.Step{remove(1, 3)}, 0, api.ErrProof}, {formula(2, []int{}), nil, []api.Step{remove()}, 1, api.OK},
		{both, nil, []api.Step{define(3, 1, -2), learn(-3, 1), learn(-3, -2), learn(3, -1, 2), learn(-3)}, 5, api.OK}, {both, nil, []api.Step{define(3, 1, 2), learn(3, -1)}, 2, api.OK}, {both, nil, []api.Step{define(3, 1, 2), learn(3, 1)}, 1, api.ErrProof},
		{both, nil, []api.Step{define(4, 1)}, 0, api.ErrProof}, {both, nil, []api.Step{define(2, 1)}, 0, api.ErrProof}, {both, nil, []api.Step{define(3)}, 0, api.ErrProof}, {both, nil, []api.Step{define(3, 3)}, 0, api.ErrProof}, {both, nil, []api.Step{define(-3, 1)}, 0, api.ErrProof},
		{both, nil, []api.Step{define(3, 1), define(4, -3), learn(1, 4)}, 3, api.OK}, {both, nil, []api.Step{{Kind: api.StepDefine, Lits: []int{3, 1}, Sym: 1}}, 0, api.ErrProof}, {formula(20000), nil, []api.Step{define(20001, 1)}, 0, api.ErrProof},
		{formula(19999), nil, []api.Step{define(20000, 1), define(20001, 1)}, 1, api.ErrProof}, {both, nil, []api.Step{symmetry(0, 1, -2)}, 0, api.ErrProof}, {both, [][]int{swap}, []api.Step{symmetry(1, 1, -2)}, 0, api.ErrProof}, {both, [][]int{swap}, []api.Step{symmetry(-1, 1, -2)}, 0, api.ErrProof},
		{both, [][]int{swap, flip}, []api.Step{symmetry(1, -1, 2, 2), symmetry(0, -2, 1)}, 2, api.OK}, {both, [][]int{{2, -1}}, []api.Step{symmetry(0, 1, -2)}, 0, api.ErrProof}, {both, [][]int{{1, 2, 3}}, []api.Step{symmetry(0, 1, -2)}, 0, api.ErrProof},
		{both, [][]int{swap}, []api.Step{learn(1, -2, 2), symmetry(0, 1, 2, -1, 2)}, 2, api.OK}, {both, [][]int{swap}, []api.Step{learn(1, -2, 2), symmetry(0, -2, 1, -1)}, 1, api.ErrProof}, {both, [][]int{swap}, []api.Step{learn(1, -2, 2), symmetry(0, 2, -1, 1)}, 2, api.OK},
		{both, [][]int{swap}, []api.Step{define(3, 1), symmetry(0, -3, 2)}, 1, api.ErrProof}, {both, [][]int{swap}, []api.Step{remove(1, -2), symmetry(0, -1, 2)}, 1, api.ErrProof}, {both, [][]int{swap}, []api.Step{remove(1, -2), symmetry(0, 1, -2)}, 2, api.OK},
		{formula(2, []int{1}, []int{2}), [][]int{swap}, []api.Step{remove(2), symmetry(0, 2), learn(2), remove(1), learn(1)}, 4, api.ErrProof}, {both, [][]int{swap}, []api.Step{symmetry(0, 3)}, 0, api.ErrProof}, {formula(1, []int{}), [][]int{{-1}}, []api.Step{symmetry(0)}, 1, api.OK},
	} {
		got, e := Check(x.f, x.syms, x.l)
		if got != x.want || e != x.e {
			t.Errorf("case %d: %d, %d", i, got, e)
		}
	}
	long := make([]api.Step, api.MaxProof+1)
	for i := range long {
		long[i] = learn(1, -1)
	}
	if i, e := Check(formula(1), nil, long[1:]); i != api.MaxProof || e != api.OK {
		t.Errorf("as many steps as possible: %d, %d", i, e)
	}
	if i, e := Check(square, nil, long); i != 0 || e != api.ErrLimit || Refutes(formula(0, []int{}), nil, long) {
		t.Errorf("too many steps: %d, %d", i, e)
	}
	syms := make([][]int, 20003)
	syms[20002] = swap
	if i, e := Check(both, syms, []api.Step{symmetry(20002, 2, -1)}); i != 1 || e != api.OK {
		t.Errorf("many symmetries: %d, %d", i, e)
	}
}

// P23.1: refutations.
func TestRefutes(t *testing.T) {
	for i, x := range []struct {
		f    api.CNF
		l    []api.Step
		want bool
	}{
		{square, []api.Step{learn(1), learn()}, true}, {square, []api.Step{learn(1)}, false}, {square, nil, false}, {formula(1, []int{}), nil, true}, {formula(1, []int{}), []api.Step{remove()}, true}, {formula(1, []int{}), []api.Step{remove(), learn(1)}, false},
		{square, []api.Step{learn(1), learn(), remove()}, true}, {square, []api.Step{learn(1), learn(), remove(), remove()}, false}, {square, []api.Step{learn(1), learn(), learn(3)}, false}, {formula(1, []int{1}), []api.Step{learn(1)}, false},
	} {
		if got := Refutes(x.f, nil, x.l); got != x.want {
			t.Errorf("case %d: %t", i, got)
		}
	}
}

// P23.1: symmetries.
func TestSymmetryValid(t *testing.T) {
	f := formula(3, []int{1, -2}, []int{2, -3, 2}, []int{3, -1})
	for _, x := range []struct {
		sym  []int
		want bool
	}{
		{[]int{1, 2, 3}, true}, {[]int{2, 3, 1}, true}, {[]int{3, 1, 2}, true}, {[]int{2, 1, 3}, false}, {[]int{-2, -1, -3}, true}, {[]int{-1, -2, -3}, false}, {[]int{1, 2}, false}, {[]int{1, 2, 3, 4}, false}, {[]int{1, 1, 3}, false}, {[]int{1, -1, 3}, false},
		{[]int{0, 2, 3}, false}, {[]int{4, 2, 3}, false}, {nil, false}, {[]int{1, 2, -1 << 63}, false},
	} {
		if got := SymmetryValid(f, x.sym); got != x.want {
			t.Errorf("SymmetryValid(%v) = %t", x.sym, got)
		}
	}
	if !SymmetryValid(formula(0), nil) || !SymmetryValid(formula(1, []int{1, -1}), []int{-1}) || SymmetryValid(formula(1, []int{2}), []int{1}) {
		t.Error("small formulas")
	}
}

// satisfying calls visit for all assignments of a formula with four variables that satisfy it.
func satisfying(f api.CNF, visit func(values []bool)) {
	for bits := range 16 {
		values := []bool{bits&1 > 0, bits&2 > 0, bits&4 > 0, bits&8 > 0}
		if cnf.Satisfies(f, values) {
			visit(values)
		}
	}
}

// random returns steps that are often justified.
func random(s *sample.Source, f api.CNF, syms [][]int) []api.Step {
	var l []api.Step
	all := slices.Clone(f.Clauses)
	vars := f.Vars
	for range s.Below(7) {
		switch s.Below(5) {
		case 0, 1:
			clause := s.Clause(vars, 3)
			if unitprop.Implies(api.CNF{Vars: vars, Clauses: all}, clause) || s.Chance(5) {
				l, all = append(l, learn(clause...)), append(all, clause)
			}
		case 2:
			if len(all) > 0 {
				l = append(l, remove(sample.Shuffle(s, sample.Pick(s, all))...))
			}
		case 3:
			vars++
			clause := s.Clause(vars-1, 3)
			l = append(l, define(append([]int{vars}, clause...)...))
			all = append(all, []int{-vars, clause[0]})
		case 4:
			if i := s.Below(len(syms)); len(all) > 0 && !slices.ContainsFunc(all, func(c []int) bool { return !within(c, 4) }) {
				l = append(l, symmetry(i, image(syms[i], sample.Pick(s, all))...))
			}
		}
	}
	return l
}

// P23.2, P23.4, P23.5, P23.6 on sampled formulas and steps.
func TestRandom(t *testing.T) {
	s := sample.New(1)
	accepted := 0
	for range 3000 {
		f := s.Clauses(4, s.Below(8), 3)
		syms := [][]int{{2, 1, 3, 4}, {1, 2, 4, 3}, {3, 4, 1, 2}}
		for _, sym := range syms {
			if s.Chance(50) {
				for _, c := range slices.Clone(f.Clauses) {
					f.Clauses = append(f.Clauses, image(sym, c))
				}
			}
		}
		l := random(s, f, syms)
		n, e := Check(f, syms, l)
		if e == api.OK && len(l) > 2 {
			accepted++
		}
		for k := range l {
			m, d := Check(f, syms, l[:k])
			if k <= n && (m != k || d != api.OK) || k > n && (m != n || d != api.ErrProof) {
				t.Fatalf("%v: prefix %d", l, k)
			}
		}
		checkSoundness(t, f, l[:n])
		checkMore(t, s, f, l[:n])
		checkSymmetries(t, f, syms)
	}
	if accepted < 200 {
		t.Errorf("only %d proofs", accepted)
	}
}

// checkSoundness checks P23.2: satisfying assignments can be extended so that they satisfy all learned clauses.
func checkSoundness(t *testing.T, f api.CNF, l []api.Step) {
	t.Helper()
	satisfying(f, func(values []bool) {
		values = slices.Clone(values)
		holds := func(x int) bool { return values[max(x, -x)-1] == (x > 0) }
		for _, step := range l {
			if step.Kind == api.StepDefine {
				values = append(values, !slices.ContainsFunc(step.Lits[1:], func(x int) bool { return !holds(x) }))
			}
			if (step.Kind == api.StepLearn || step.Kind == api.StepSymmetry) && !slices.ContainsFunc(step.Lits, holds) {
				t.Fatalf("%v, %v: %v falsifies %v", f, l, values, step)
			}
		}
		if Refutes(f, nil, l) {
			t.Fatalf("%v is refuted", f)
		}
	})
}

// checkMore checks P23.6.
func checkMore(t *testing.T, s *sample.Source, f api.CNF, l []api.Step) {
	t.Helper()
	plain := slices.DeleteFunc(slices.Clone(l), func(x api.Step) bool { return x.Kind == api.StepSymmetry })
	n, _ := Check(f, nil, plain)
	more := api.CNF{Vars: 4, Clauses: append(slices.Clone(f.Clauses), s.Clause(4, 3))}
	if m, _ := Check(more, nil, plain[:n]); m != n {
		t.Fatalf("%v, %v: with another clause", f, plain)
	}
	simple := slices.DeleteFunc(plain[:n:n], func(x api.Step) bool { return x.Kind == api.StepDefine })
	n, _ = Check(f, nil, simple)
	if m, _ := Check(api.CNF{Vars: 7, Clauses: f.Clauses}, nil, simple[:n]); m != n {
		t.Fatalf("%v, %v: with more variables", f, simple)
	}
}

// checkSymmetries checks P23.5.
func checkSymmetries(t *testing.T, f api.CNF, syms [][]int) {
	t.Helper()
	if !SymmetryValid(f, []int{1, 2, 3, 4}) {
		t.Fatalf("%v: the identity", f)
	}
	for _, a := range syms {
		for _, b := range syms {
			if SymmetryValid(f, a) && SymmetryValid(f, b) && !SymmetryValid(f, image(a, b)) {
				t.Fatalf("%v: %v and %v", f, a, b)
			}
		}
		if !SymmetryValid(f, a) {
			continue
		}
		satisfying(f, func(values []bool) {
			moved := make([]bool, 4)
			for v, x := range a {
				moved[max(x, -x)-1] = values[v] == (x > 0)
			}
			if !cnf.Satisfies(f, moved) {
				t.Fatalf("%v: %v under %v", f, values, a)
			}
		})
	}
}

// P23.3: the proofs of the solver are accepted, and changed ones are not, unless the changed step is justified as well.
func TestCompleteness(t *testing.T) {
	s := sample.New(2)
	refuted, rejected := 0, 0
	for range 500 {
		f := formula(8)
		for range s.Between(36, 48) {
			v := sample.Shuffle(s, []int{1, 2, 3, 4, 5, 6, 7, 8})
			f.Clauses = append(f.Clauses, []int{v[0] * s.Literal(1), v[1] * s.Literal(1), v[2] * s.Literal(1)})
		}
		v := solver.New(8)
		for _, clause := range f.Clauses {
			v.AddClause(clause)
		}
		if v.Solve(nil, 100000) != api.Unsat {
			continue
		}
		refuted++
		l := v.Proof()
		if !Refutes(f, nil, l) {
			t.Fatalf("%v: %v", f, l)
		}
		i := s.Below(len(l))
		if len(l[i].Lits) == 0 {
			continue
		}
		j := s.Below(len(l[i].Lits))
		l[i].Lits[j] = -l[i].Lits[j]
		n, _ := Check(f, nil, l)
		before := api.CNF{Vars: 8, Clauses: slices.Clone(f.Clauses)}
		for _, step := range l[:i] {
			before.Clauses = append(before.Clauses, step.Lits)
		}
		if unitprop.Implies(before, l[i].Lits) != (n > i) {
			t.Fatalf("%v: changed step %d of %v", f, i, l)
		}
		if n == i {
			rejected++
		}
	}
	if refuted < 100 || rejected < 20 {
		t.Errorf("%d refuted, %d rejected", refuted, rejected)
	}
}

// Check does not modify its arguments.
func TestMemory(t *testing.T) {
	f := formula(2, []int{1, 2}, []int{2, 1}, []int{1})
	l := []api.Step{remove(2, 1), learn(2, 1), remove(1, 2)}
	Check(f, nil, l)
	if !slices.EqualFunc(f.Clauses, [][]int{{1, 2}, {2, 1}, {1}}, slices.Equal[[]int]) || !slices.Equal(l[0].Lits, []int{2, 1}) {
		t.Error("arguments are modified")
	}
}
