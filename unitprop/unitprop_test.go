package unitprop

import (
	"slices"
	"testing"

	"armature/api"
	"armature/cnf"
	"armature/sample"
)

func formula(vars int, clauses ...[]int) api.CNF { return api.CNF{Vars: vars, Clauses: clauses} }

// P20.1: the examples of the chapter, and the edge cases of the definitions.
func TestExamples(t *testing.T) {
	for _, x := range []struct {
		f        api.CNF
		assume   []int
		implied  []int
		conflict int
	}{
		{formula(3, []int{-1, 2}, []int{-2, 3}), []int{1}, []int{2, 3}, -1}, {formula(3, []int{-2, 3}, []int{-1, 2}, []int{-3}), []int{1}, []int{2, 3}, 2}, {formula(1, []int{1, 1}), nil, []int{1}, -1},
		{formula(0), nil, nil, -1}, {formula(0, []int{}), nil, nil, 0}, {formula(2, []int{1, 2}, []int{}), []int{-1}, []int{2}, 1}, {formula(2, []int{}, []int{1}), nil, nil, 0},
		{formula(2, []int{1}), []int{-1}, nil, 0}, {formula(2, []int{1}), []int{2, -1, -2}, nil, -2}, {formula(2, []int{1, -1}, []int{2, -1, 1}), []int{1}, nil, -1}, {formula(2, []int{1, -1}), nil, nil, -1},
		{formula(2, []int{-1, 2, 2}), []int{1, 1, 1}, []int{2}, -1}, {formula(4, []int{-3, 4}, []int{-2, 3}, []int{-1, 2}, []int{1}), nil, []int{1, 2, 3, 4}, -1}, {formula(3, []int{2, 3}, []int{-2}, []int{-3}), nil, []int{-2, 3}, 2},
		{formula(3, []int{-1, 3}, []int{-1, 2}, []int{-2, -3}), []int{1}, []int{3, 2}, 2}, {formula(1), []int{1, -1}, nil, -2},
	} {
		implied, conflict := Propagate(x.f, x.assume)
		if !slices.Equal(implied, x.implied) || conflict != x.conflict {
			t.Errorf("Propagate(%v, %v) = %v, %d", x.f, x.assume, implied, conflict)
		}
	}
	f := formula(6, []int{-1, 3}, []int{-3, -2, 4}, []int{5}, []int{-5, -4, 6})
	if got := Reasons(f, []int{1, 2}); !slices.Equal(got, [][2]int{{3, 0}, {4, 1}, {5, 2}, {6, 3}}) {
		t.Error(got)
	}
	if got := Levels(f, []int{1, 2, 1}); !slices.Equal(got, []int{1, 2, 0, 2}) {
		t.Error(got)
	}
	if Reasons(f, []int{1, -1}) != nil || Levels(f, []int{1, -1}) != nil {
		t.Error("contradictory assumptions")
	}
	for _, x := range []struct {
		clause []int
		want   bool
	}{{[]int{-1, 3}, true}, {[]int{-1, -2, 6}, true}, {[]int{-1, 6}, false}, {[]int{2, -2}, true}, {nil, false}, {[]int{5}, true}, {[]int{-5, 1}, false}} {
		if got := Implies(f, x.clause); got != x.want {
			t.Errorf("Implies(%v) = %t", x.clause, got)
		}
	}
	if !Implies(formula(1, []int{}), nil) || !Implies(formula(1, []int{1}, []int{-1}), nil) {
		t.Error("the empty clause")
	}
	if implied, conflict := Propagate(f, []int{99}); implied != nil || conflict != -1 || Implies(f, []int{-99}) {
		t.Error("an assumption out of range")
	}
}

// naive propagates as the chapter describes it.
func naive(f api.CNF, assume []int) (trail, reasons []int, assumed, conflict int) {
	for _, x := range assume {
		if slices.Contains(assume, -x) {
			return nil, nil, 0, -2
		}
		if !slices.Contains(trail, x) {
			trail = append(trail, x)
		}
	}
	assumed = len(trail)
search:
	for {
		for i, clause := range f.Clauses {
			var open []int
			satisfied := false
			for _, x := range clause {
				satisfied = satisfied || slices.Contains(trail, x)
				if !slices.Contains(trail, -x) && !slices.Contains(open, x) {
					open = append(open, x)
				}
			}
			if !satisfied && len(open) == 0 {
				return trail, reasons, assumed, i
			}
			if !satisfied && len(open) == 1 {
				trail, reasons = append(trail, open[0]), append(reasons, i)
				continue search
			}
		}
		return trail, reasons, assumed, -1
	}
}

// P20.1 against the definition, and P20.2 to P20.6, on sampled formulas.
func TestRandom(t *testing.T) {
	s := sample.New(1)
	conflicts, long := 0, 0
	for range 3000 {
		f := s.Clauses(5, s.Below(14), s.Between(1, 4))
		if s.Chance(3) {
			f.Clauses = append(f.Clauses, nil)
		}
		var assume []int
		for range s.Below(4) {
			assume = append(assume, s.Literal(5))
		}
		trail, reasons, assumed, want := naive(f, assume)
		implied, conflict := Propagate(f, assume)
		if conflict != want || !slices.Equal(implied, trail[assumed:]) {
			t.Fatalf("Propagate(%v, %v) = %v, %d, not %v, %d", f, assume, implied, conflict, trail[assumed:], want)
		}
		for i, x := range Reasons(f, assume) {
			if x != [2]int{implied[i], reasons[i]} {
				t.Fatalf("Reasons(%v, %v)", f, assume)
			}
		}
		if conflict >= 0 {
			conflicts++
		}
		if len(implied) > 2 {
			long++
		}
		if conflict == -2 {
			continue
		}
		checkSoundness(t, f, assume, implied, conflict)
		checkOrder(t, s, f, assume, implied, conflict)
		checkReasons(t, f, assume, trail, assumed)
		checkMore(t, s, f, assume, implied, conflict)
	}
	if conflicts < 100 || long < 100 {
		t.Errorf("%d conflicts, %d long trails", conflicts, long)
	}
}

// each calls visit for all assignments of five variables.
func each(visit func(values []bool)) {
	for bits := range 32 {
		visit([]bool{bits&1 > 0, bits&2 > 0, bits&4 > 0, bits&8 > 0, bits&16 > 0})
	}
}

// satisfies reports whether an assignment satisfies a formula and some literals.
func satisfies(f api.CNF, literals []int, values []bool) bool {
	for _, x := range literals {
		if values[max(x, -x)-1] != (x > 0) {
			return false
		}
	}
	return cnf.Satisfies(f, values)
}

// checkSoundness checks P20.2 and, for Horn formulas, P20.6.
func checkSoundness(t *testing.T, f api.CNF, assume, implied []int, conflict int) {
	t.Helper()
	possible := false
	each(func(values []bool) {
		if satisfies(f, assume, values) {
			possible = true
			if conflict >= 0 || !satisfies(f, implied, values) {
				t.Fatalf("%v, %v: %v satisfies it", f, assume, values)
			}
		}
	})
	horn := !slices.ContainsFunc(f.Clauses, func(c []int) bool {
		positive := map[int]bool{}
		for _, x := range c {
			if x > 0 {
				positive[x] = true
			}
		}
		return len(positive) > 1
	})
	if _, got := Propagate(f, nil); horn && len(assume) == 0 && (got >= 0) == possible {
		t.Fatalf("%v: Horn formula, conflict %d", f, got)
	}
}

// checkOrder checks that the order of clauses and assumptions does not matter, and that nothing is left to do (P20.3).
func checkOrder(t *testing.T, s *sample.Source, f api.CNF, assume, implied []int, conflict int) {
	t.Helper()
	g := api.CNF{Vars: f.Vars, Clauses: sample.Shuffle(s, f.Clauses)}
	other, c := Propagate(g, sample.Shuffle(s, assume))
	slices.Sort(other)
	sorted := slices.Sorted(slices.Values(implied))
	if (c >= 0) != (conflict >= 0) || c < 0 && !slices.Equal(other, sorted) {
		t.Fatalf("%v, %v: another order", f, assume)
	}
	if conflict >= 0 {
		return
	}
	if again, c := Propagate(f, append(slices.Clone(assume), implied...)); len(again) > 0 || c != -1 {
		t.Fatalf("%v, %v: not finished", f, assume)
	}
}

// checkReasons checks P20.4.
func checkReasons(t *testing.T, f api.CNF, assume, trail []int, assumed int) {
	t.Helper()
	levels := Levels(f, assume)
	for i, r := range Reasons(f, assume) {
		for _, y := range f.Clauses[r[1]] {
			if y != r[0] && !slices.Contains(trail[:assumed+i], -y) {
				t.Fatalf("%v, %v: reason of %d", f, assume, r[0])
			}
		}
		var alone []int
		for _, x := range trail[:assumed] {
			if depends(f, assume, assumed, trail, r[0], x) {
				alone = append(alone, x)
			}
		}
		part, _ := Propagate(f, alone)
		if levels[i] != len(alone) || !slices.Contains(f.Clauses[r[1]], r[0]) || !slices.Contains(part, r[0]) && !conflicts(f, alone) {
			t.Fatalf("%v, %v: level %d of %d", f, assume, levels[i], r[0])
		}
	}
}

// conflicts reports whether the propagation of assumptions ends with a conflict.
func conflicts(f api.CNF, assume []int) bool {
	_, c := Propagate(f, assume)
	return c >= 0
}

// depends reports whether a literal on the trail depends on an assumption.
func depends(f api.CNF, assume []int, assumed int, trail []int, x, assumption int) bool {
	i := slices.Index(trail, x)
	if i < assumed {
		return x == assumption
	}
	for _, y := range f.Clauses[Reasons(f, assume)[i-assumed][1]] {
		if y != x && depends(f, assume, assumed, trail, -y, assumption) {
			return true
		}
	}
	return false
}

// checkMore checks P20.5.
func checkMore(t *testing.T, s *sample.Source, f api.CNF, assume, implied []int, conflict int) {
	t.Helper()
	more := append(slices.Clone(assume), s.Literal(5))
	g := api.CNF{Vars: 5, Clauses: append(slices.Clone(f.Clauses), s.Clause(5, 3))}
	for _, x := range []struct {
		f      api.CNF
		assume []int
	}{{f, more}, {g, assume}, {g, more}} {
		got, c := Propagate(x.f, x.assume)
		if c == -2 {
			continue
		}
		got = append(got, x.assume...)
		for _, y := range implied {
			if c == -1 && !slices.Contains(got, y) {
				t.Fatalf("%v, %v: %d is lost", x.f, x.assume, y)
			}
		}
		if conflict >= 0 && c < 0 {
			t.Fatalf("%v, %v: the conflict is lost", x.f, x.assume)
		}
	}
	clause := s.Clause(5, 3)
	if Implies(f, clause) && !Implies(f, append(clause, s.Literal(5))) {
		t.Fatalf("%v: %v", f, clause)
	}
}

// Results and arguments are independent.
func TestMemory(t *testing.T) {
	f, assume := formula(2, []int{-1, 2}), []int{1}
	got, _ := Propagate(f, assume)
	got[0] = 9
	if !slices.Equal(f.Clauses[0], []int{-1, 2}) || assume[0] != 1 {
		t.Error("results share memory")
	}
}

// P20.1: implications that take many passes over the clauses.
func TestChains(t *testing.T) {
	for _, length := range []int{2, 7, 8, 9, 10, 11, 300} {
		// Each pass in the order of the formula implies one more literal, and only the last one leads to a conflict.
		f := formula(length+1, []int{-length, length + 1}, []int{-length, -length - 1})
		for v := length - 1; v >= 1; v-- {
			f.Clauses = append(f.Clauses, []int{-v, v + 1})
		}
		if !Implies(f, []int{-1}) || !Implies(f, []int{-length}) || !Implies(f, []int{-1, length + 1}) || Implies(f, []int{1}) || Implies(f, nil) {
			t.Errorf("a chain of %d literals", length)
		}
		free := api.CNF{Vars: f.Vars, Clauses: f.Clauses[2:]}
		if Implies(free, []int{-1}) || !Implies(free, []int{-1, length}) || Implies(free, []int{-2, 1}) {
			t.Errorf("a free chain of %d literals", length)
		}
		if implied, conflict := Propagate(free, []int{1}); len(implied) != length-1 || conflict != -1 {
			t.Errorf("a chain of %d literals: %v", length, implied)
		}
	}
}
