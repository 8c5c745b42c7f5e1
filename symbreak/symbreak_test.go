package symbreak_test

import (
	"slices"
	"testing"

	"armature/api"
	"armature/bounds"
	"armature/circuit"
	"armature/lasso"
	"armature/model"
	"armature/permute"
	"armature/refine"
	"armature/sample"
	"armature/symbreak"
)

func rel(arity int, tuples ...int) api.Rel { return api.Rel{Arity: arity, Tuples: tuples} }

func scope(steps int, atoms ...int) api.Scope { return api.Scope{Atoms: atoms, Steps: steps} }

// P24.1: induced permutations.
func TestLiterals(t *testing.T) {
	sp := api.Spec{Sorts: []api.Sort{{Name: "A"}}, Fields: []api.Field{{Name: "f", Sorts: []int{0}}, {Name: "g", Sorts: []int{0, 0}, Var: true}}}
	b := []api.Bound{{Lower: rel(1), Upper: rel(1, 0, 1)}, {Lower: rel(2, 0, 3), Upper: rel(2, 0, 1, 2, 3)}}
	for _, x := range []struct {
		steps int
		p     []int
		want  []int
	}{{1, []int{1, 0}, []int{2, 1, 4, 3}}, {1, []int{0, 1}, []int{1, 2, 3, 4}}, {2, []int{1, 0}, []int{1, 2, 4, 3, 6, 5, 8, 7}}, {3, []int{1, 0}, []int{1, 2, 3, 5, 4, 7, 6, 9, 8, 11, 10}}} {
		if got := symbreak.Literals(sp, scope(x.steps, 2), b, x.p); !slices.Equal(got, x.want) {
			t.Errorf("%d steps: %v", x.steps, got)
		}
	}
	if got := symbreak.Literals(sp, scope(1, 2), b, nil); len(got) != 0 {
		t.Errorf("no permutation: %v", got)
	}
}

// P24.1: the gates of a predicate, in the order of the chapter.
func TestPredicate(t *testing.T) {
	in := func(v int) api.Gate { return api.Gate{Kind: api.GateInput, A: v} }
	and := func(a, b int) api.Gate { return api.Gate{Kind: api.GateAnd, A: a, B: b} }
	c, r := symbreak.Predicate(circuit.New(), []int{2, 1}, []int{1, 2})
	// For variable 2: a is gate 1, b is gate 2, s and t are gates 3 and 4, u is true because r is, and r is the negation of s.
	// For variable 1: s and t are gates 4 and 3; u is their disjunction with r, gate 5, and r is the conjunction of not s and u.
	want := []api.Gate{{}, in(2), in(1), and(2, 5), and(3, 4)}
	if !slices.Equal(c.Gates[:5], want) || circuit.Eval(c, []bool{true, false}, r) || !circuit.Eval(c, []bool{false, true}, r) || !circuit.Eval(c, []bool{true, true}, r) || !circuit.Eval(c, nil, r) {
		t.Errorf("%v, %d", c, r)
	}
	w := circuit.New()
	var s api.Ref
	perm, order := []int{3, 1, 2, 4}, []int{4, 2, 1, 3}
	for _, x := range [][2]int{{3, 1}, {1, 2}, {2, 3}} { // the variables of the order from the last one, each with the one that is mapped to it
		var a, b, g, l api.Ref
		w, a = circuit.Input(w, x[0])
		w, b = circuit.Input(w, x[1])
		w, g = circuit.And(w, a, circuit.Not(b))
		w, l = circuit.And(w, circuit.Not(a), b)
		w, l = circuit.Or(w, l, s)
		w, s = circuit.And(w, circuit.Not(g), l)
	}
	if c, r := symbreak.Predicate(circuit.New(), perm, order); r != s || !slices.Equal(c.Gates, w.Gates) {
		t.Errorf("%v, not %v", c, w)
	}
	if c, r := symbreak.Predicate(circuit.New(), []int{1, 2}, []int{2, 1}); r != 0 || len(c.Gates) != 1 {
		t.Errorf("the identity: %d", r)
	}
	if c, r := symbreak.Predicate(circuit.New(), []int{2, 1}, nil); r != 0 || len(c.Gates) != 1 {
		t.Errorf("no variables: %d", r)
	}
	if c, r := symbreak.Predicate(circuit.New(), []int{7, 8}, nil); r != 0 || len(c.Gates) != 0 {
		t.Errorf("a permutation out of range: %d", r)
	}
	perm = nil
	for v := range 202 {
		perm = append(perm, v+1)
	}
	perm[0], perm[201] = 202, 1
	if c, r := symbreak.Predicate(sample.Full(), perm, []int{1, 202}); r != -1 || len(c.Gates) != api.MaxGates {
		t.Errorf("a full circuit: %d", r)
	}
}

// values returns the assignment whose bits are those of a number, the first variable being the most significant.
func values(n, bits int) []bool {
	out := make([]bool, n)
	for i := range out {
		out[i] = bits>>(n-1-i)&1 == 1
	}
	return out
}

// image returns the image of an assignment.
func image(perm []int, x []bool) []bool {
	y := make([]bool, len(perm))
	for v := range perm {
		y[perm[v]-1] = x[v]
	}
	return y
}

// notGreater compares two assignments with respect to some variables.
func notGreater(x, y []bool, order []int) bool {
	for _, v := range order {
		if x[v-1] != y[v-1] {
			return y[v-1]
		}
	}
	return true
}

// P24.1, P24.4: predicates of arbitrary permutations and orders, under all assignments.
func TestRandomPredicates(t *testing.T) {
	s := sample.New(1)
	for range 300 {
		n := s.Between(1, 5)
		var all []int
		for v := range n {
			all = append(all, v+1)
		}
		perm, order := sample.Shuffle(s, all), sample.Subset(s, sample.Shuffle(s, all), 70)
		c := s.Circuit(3, 3)
		d, r := symbreak.Predicate(c, perm, order)
		if !circuit.Valid(d) || !slices.Equal(d.Gates[:len(c.Gates)], c.Gates) {
			t.Fatalf("%v, %v: %v", perm, order, d)
		}
		other := sample.Shuffle(s, all)
		for bits := range 1 << n {
			x := values(n, bits)
			if circuit.Eval(d, x, r) != notGreater(x, image(perm, x), order) {
				t.Fatalf("%v, %v: %v", perm, order, x)
			}
			want := notGreater(x, image(perm, x), all) && notGreater(x, image(other, x), all)
			if symbreak.Leader(x, [][]int{perm, other}) != want {
				t.Fatalf("Leader(%v, %v, %v)", x, perm, other)
			}
		}
	}
	if !symbreak.Leader(nil, [][]int{{2, 1}}) || !symbreak.Leader([]bool{true}, nil) || symbreak.Leader([]bool{true}, [][]int{{2, 1}}) || !symbreak.Leader([]bool{true}, [][]int{{1}, {}}) {
		t.Error("short assignments")
	}
	if symbreak.Leader([]bool{true}, [][]int{{7}}) {
		t.Error("a permutation out of range")
	}
}

// symmetric returns bounds with symmetries and few variables.
func symmetric(s *sample.Source) (api.Spec, api.Scope, []api.Bound) {
	for {
		sp := s.Spec(sample.Size{Sorts: 2, Fields: 2, Arity: 2, Temporal: true})
		sc := s.Scope(sp, 3, 2)
		b := bounds.Default(sp, sc)
		if s.Chance(30) {
			b = s.Bounds(sp, sc, 8)
		}
		if lasso.Inputs(sp, sc, b) <= 8 {
			return sp, sc, b
		}
	}
}

// P24.2 to P24.5: symmetries of sampled bounds.
func TestSymmetries(t *testing.T) {
	s := sample.New(2)
	large := 0
	for range 150 {
		sp, sc, b := symmetric(s)
		group := refine.Group(sp, sc, b)
		if len(group) > 2 {
			large++
		}
		p, q := sample.Pick(s, group), sample.Pick(s, group)
		lp, lq := symbreak.Literals(sp, sc, b, p), symbreak.Literals(sp, sc, b, q)
		composed := symbreak.Literals(sp, sc, b, permute.Compose(p, q))
		for v, w := range symbreak.Literals(sp, sc, b, group[0]) {
			if w != v+1 || lp[lq[v]-1] != composed[v] {
				t.Fatalf("%v, %v: %v, %v, %v", p, q, lp, lq, composed)
			}
		}
		m := s.Model(sp, sc, b)
		x, _ := lasso.Encode(sp, sc, b, m)
		y, ok := lasso.Encode(sp, sc, b, permute.Model(p, m))
		if !ok || !slices.Equal(y, image(lp, x)) {
			t.Fatalf("%v: %v, %v", m, x, y)
		}
		checkBreaking(t, s, sp, sc, b, group)
	}
	if large < 20 {
		t.Errorf("only %d large groups", large)
	}
}

// checkBreaking checks predicates and leaders under all assignments.
func checkBreaking(t *testing.T, s *sample.Source, sp api.Spec, sc api.Scope, b []api.Bound, group [][]int) {
	t.Helper()
	n := lasso.Inputs(sp, sc, b)
	var perms [][]int
	for _, p := range group {
		perms = append(perms, symbreak.Literals(sp, sc, b, p))
	}
	c, r := symbreak.Breaking(sp, sc, b, group, s.Circuit(1, 0))
	leaders := map[int]int{} // by the least image
	for bits := range 1 << n {
		x := values(n, bits)
		leads := symbreak.Leader(x, perms)
		if circuit.Eval(c, x, r) != leads {
			t.Fatalf("Breaking: %v", x)
		}
		least := bits
		for _, perm := range perms {
			number := 0
			for _, v := range image(perm, x) {
				number *= 2
				if v {
					number++
				}
			}
			least = min(least, number)
		}
		if leads != (least == bits) {
			t.Fatalf("%v: the least image is %d", x, least)
		}
		if leads {
			leaders[least]++
		}
	}
	for least, count := range leaders {
		if count != 1 {
			t.Fatalf("%d leaders of %d", count, least)
		}
	}
}

// P24.1: the gates of Breaking are those of its predicates, and a full circuit yields -1.
func TestBreaking(t *testing.T) {
	sp := api.Spec{Sorts: []api.Sort{{Name: "A"}}, Fields: []api.Field{{Name: "f", Sorts: []int{0}, Var: true}}}
	sc := scope(2, 3)
	b := bounds.Default(sp, sc)
	group := refine.Group(sp, sc, b)
	c, r := circuit.New(), 0
	for _, p := range group {
		var q api.Ref
		c, q = symbreak.Predicate(c, symbreak.Literals(sp, sc, b, p), []int{1, 2, 3, 4, 5, 6, 7, 8})
		c, r = circuit.And(c, r, q)
	}
	d, got := symbreak.Breaking(sp, sc, b, group, circuit.New())
	if got != r || !slices.Equal(c.Gates, d.Gates) {
		t.Errorf("%v, not %v", d, c)
	}
	if d, r := symbreak.Breaking(sp, sc, b, nil, circuit.New()); r != 0 || len(d.Gates) != 1 {
		t.Errorf("no permutations: %d", r)
	}
	large := scope(1, 5)
	wide := api.Spec{Sorts: sp.Sorts, Fields: []api.Field{{Name: "f", Sorts: []int{0, 0, 0}}}}
	d, r = symbreak.Breaking(wide, large, bounds.Default(wide, large), refine.Group(wide, large, bounds.Default(wide, large)), circuit.New())
	if r != -1 || len(d.Gates) != api.MaxGates {
		t.Errorf("a full circuit: %d", r)
	}
	m := api.Model{Scope: sc, States: [][]api.Rel{{rel(1, 2)}, {rel(1, 2)}}}
	if !model.Valid(sp, m) {
		t.Error("the model is not valid")
	}
}
