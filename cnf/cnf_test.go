package cnf

import (
	"reflect"
	"slices"
	"testing"

	"armature/api"
	"armature/circuit"
	"armature/sample"
)

func formula(vars int, clauses ...[]int) api.CNF { return api.CNF{Vars: vars, Clauses: clauses} }

// equal compares formulas; empty clauses may be nil.
func equal(f, g api.CNF) bool {
	return f.Vars == g.Vars && slices.EqualFunc(f.Clauses, g.Clauses, slices.Equal[[]int])
}

// P19.1: valid formulas, and each way of being invalid.
func TestValid(t *testing.T) {
	many := api.CNF{Vars: 1, Clauses: make([][]int, api.MaxClauses)}
	more := api.CNF{Vars: 1, Clauses: make([][]int, api.MaxClauses+1)}
	for i, x := range []struct {
		f    api.CNF
		want bool
	}{
		{formula(0), true}, {formula(0, []int{}), true}, {formula(20000, []int{20000, -20000, 1, 1}), true}, {many, true}, {more, false}, {formula(-1), false}, {formula(20001), false}, {formula(2, []int{0}), false},
		{formula(2, []int{1}, []int{2, 3}), false}, {formula(2, []int{-3}), false}, {formula(2, []int{-1 << 63}), false},
	} {
		if got := Valid(x.f); got != x.want {
			t.Errorf("case %d: %t", i, got)
		}
	}
}

// P19.1: assignments, which may be short.
func TestSatisfies(t *testing.T) {
	for _, x := range []struct {
		f      api.CNF
		values []bool
		want   bool
	}{
		{formula(3), nil, true}, {formula(3, []int{}), []bool{true}, false}, {formula(3, []int{-3}), nil, true}, {formula(3, []int{3}), []bool{true, true}, false}, {formula(3, []int{1, -2}, []int{2, 3}), []bool{true, true, false}, true},
		{formula(3, []int{1, -2}, []int{2, 3}), []bool{false, true}, false}, {formula(2, []int{2}), []bool{false, true, true}, true},
	} {
		if got := Satisfies(x.f, x.values); got != x.want {
			t.Errorf("Satisfies(%v, %v) = %t", x.f, x.values, got)
		}
	}
}

// P19.1: the translation, clause by clause.
func TestTseitin(t *testing.T) {
	c := sample.New(0).Circuit(3, 0)
	c, r := circuit.And(c, 2, 4)   // gate 4
	c, _ = circuit.And(c, 3, 5)    // gate 5 is not needed
	c, s := circuit.And(c, r+1, 6) // gate 6
	for _, x := range []struct {
		r, inputs int
		want      api.CNF
	}{
		{0, 5, formula(5)}, {1, 5, formula(5, []int{})}, {4, 3, formula(3, []int{2})}, {5, 3, formula(3, []int{-2})},
		{r, 3, formula(4, []int{-4, 1}, []int{-4, 2}, []int{4, -1, -2}, []int{4})}, {r + 1, 7, formula(8, []int{-8, 1}, []int{-8, 2}, []int{8, -1, -2}, []int{-8})},
		{s, 3, formula(5, []int{-4, 1}, []int{-4, 2}, []int{4, -1, -2}, []int{-5, 3}, []int{-5, -4}, []int{5, -3, 4}, []int{5})},
	} {
		if got := Tseitin(c, x.r, x.inputs); !equal(got, x.want) {
			t.Errorf("Tseitin(%d, %d) = %v", x.r, x.inputs, got)
		}
	}
	if got := Extend(c, s, 3, []bool{true}); !slices.Equal(got, []bool{true, false, false, false, false}) {
		t.Error(got)
	}
	if got := Extend(c, s, 4, []bool{true, false, true, true, true}); !slices.Equal(got, []bool{true, false, true, true, false, true}) {
		t.Error(got)
	}
	if got := Extend(c, 1, 2, nil); !slices.Equal(got, []bool{false, false}) {
		t.Error(got)
	}
	if got := Tseitin(c, 99, 3); !equal(got, api.CNF{}) {
		t.Errorf("a reference out of range: %v", got)
	}
}

// P19.1: simplification keeps the order of what remains.
func TestSimplify(t *testing.T) {
	f := formula(4, []int{3, 1, 3}, []int{2, -2}, []int{1, 3}, []int{}, []int{4, 1, -4, 1}, []int{3, 3, 1}, []int{-1, 2, -1}, []int{}, []int{1}, []int{1, 2})
	want := formula(4, []int{3, 1}, []int{}, []int{-1, 2}, []int{1}, []int{1, 2})
	got := Simplify(f)
	if !equal(got, want) {
		t.Error(got)
	}
	got.Clauses[0][0] = 9
	if f.Clauses[0][0] != 3 {
		t.Error("Simplify shares memory")
	}
	if got := Simplify(formula(7)); !equal(got, formula(7)) {
		t.Error(got)
	}
}

// next adds one to an assignment; it is false after the last one.
func next(values []bool) bool {
	for i := range values {
		values[i] = !values[i]
		if values[i] {
			return true
		}
	}
	return false
}

// P19.2, P19.3, P19.4 on sampled circuits.
func TestTranslations(t *testing.T) {
	s := sample.New(1)
	for range 400 {
		inputs := s.Between(1, 4)
		c := s.Circuit(s.Between(1, inputs), s.Below(6))
		r := s.Below(2 * len(c.Gates))
		f := Tseitin(c, r, inputs)
		if !Valid(f) || r > 1 && len(f.Clauses) != 3*(f.Vars-inputs)+1 || slices.ContainsFunc(f.Clauses, func(x []int) bool { return len(x) > 3 }) {
			t.Fatalf("%v, %d: %v", c, r, f)
		}
		models := 0
		values := make([]bool, inputs)
		for more := true; more; more = next(values) {
			long := Extend(c, r, inputs, values)
			if len(long) != f.Vars || !slices.Equal(long[:inputs], values) || Satisfies(f, long) != circuit.Eval(c, values, r) {
				t.Fatalf("%v, %d, %v: %v", c, r, values, long)
			}
			if circuit.Eval(c, values, r) {
				models++
			}
		}
		values = make([]bool, f.Vars)
		for more := true; more; more = next(values) {
			if Satisfies(f, values) {
				models--
				if !slices.Equal(Extend(c, r, inputs, values[:inputs]), values) {
					t.Fatalf("%v, %d: %v is no extension", c, r, values)
				}
			}
		}
		if models != 0 {
			t.Fatalf("%v, %d: %d models too few", c, r, models)
		}
	}
}

// P19.5 on sampled formulas.
func TestSimplifications(t *testing.T) {
	s := sample.New(2)
	for range 500 {
		f := s.Clauses(4, s.Below(12), 4)
		if s.Chance(10) {
			f.Clauses = append(f.Clauses, nil)
		}
		g := Simplify(f)
		if !Valid(g) || !equal(Simplify(g), g) || !reflect.DeepEqual(g.Vars, f.Vars) {
			t.Fatalf("%v: %v", f, g)
		}
		values := make([]bool, 4)
		for more := true; more; more = next(values) {
			if Satisfies(f, values) != Satisfies(g, values) {
				t.Fatalf("%v: %v", f, values)
			}
		}
	}
}
