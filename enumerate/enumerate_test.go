package enumerate_test

import (
	"reflect"
	"slices"
	"testing"

	"armature/api"
	"armature/bounds"
	"armature/brute"
	"armature/checker"
	"armature/circuit"
	"armature/cnf"
	"armature/enumerate"
	"armature/eval"
	"armature/lasso"
	"armature/model"
	"armature/orbit"
	"armature/parser"
	"armature/permute"
	"armature/printer"
	"armature/refine"
	"armature/sample"
	"armature/solver"
	"armature/symbreak"
)

func spec(t *testing.T, text string) api.Spec {
	t.Helper()
	sp, d := parser.Parse(text)
	if len(d) > 0 {
		t.Fatalf("%q: %v", text, d)
	}
	return sp
}

func formula(t *testing.T, text string) api.Node {
	t.Helper()
	n, d := parser.ParseFormula(text)
	if len(d) > 0 {
		t.Fatalf("%q: %v", text, d)
	}
	return n
}

func scope(steps int, atoms ...int) api.Scope { return api.Scope{Atoms: atoms, Steps: steps} }

func same(a, b []api.Model) bool { return slices.EqualFunc(a, b, model.Equal) }

// P27.1: the examples of the chapter, and numbers of orbits that are known.
func TestExamples(t *testing.T) {
	unary := spec(t, "sort A; field f: A;")
	for in, want := range map[string][][]int{"true": {nil, {1}, {0, 1}}, "one f": {{1}}, "some f && no f": nil, "A in f": {{0, 1}}} {
		got, e := enumerate.All(unary, scope(1, 2), bounds.Default(unary, scope(1, 2)), formula(t, in))
		var values [][]int
		for _, m := range got {
			values = append(values, m.States[0][0].Tuples)
		}
		if e != api.OK || !slices.EqualFunc(values, want, slices.Equal[[]int]) {
			t.Errorf("%s: %v, %d", in, values, e)
		}
	}
	for _, x := range []struct {
		spec string
		sc   api.Scope
		in   string
		want int
	}{
		{"sort A; field f : A -> A;", scope(1, 2), "true", 10}, {"sort A; field f : A -> A;", scope(1, 3), "true", 104}, {"sort A; field f : A -> A;", scope(1, 4), "no f & iden && f = ~f", 11}, {"sort A ordered; field f : A -> A;", scope(1, 2), "true", 16},
		{"sort A; sort B; field f: A -> B;", scope(1, 3, 2), "all x: A | one x.f", 2}, {"sort A; var field f: A;", scope(2, 1), "true", 8}, {"sort A; field f: A -> A; fact a { all x: A | one x.f }", scope(1, 4), "true", 19}, {"sort A;", scope(3, 2), "true", 3}, {"sort A;", scope(1, 2), "true", 1}, {"sort A;", scope(1, 2), "false", 0},
	} {
		sp := spec(t, x.spec)
		got, e := enumerate.All(sp, x.sc, bounds.Default(sp, x.sc), formula(t, x.in))
		if e != api.OK || len(got) != x.want {
			t.Errorf("%s %s: %d models, %d", x.spec, x.in, len(got), e)
		}
	}
}

// P27.1: errors and limits.
func TestErrors(t *testing.T) {
	sp := spec(t, "sort A ordered; field f: A -> A; fact a { some A }")
	for in, want := range map[string]api.Errno{"some nothing": 40, "f in A": 42, "true": 2} {
		if got, e := enumerate.All(sp, scope(1, 3), bounds.Default(sp, scope(1, 3)), formula(t, in)); e != want || got != nil {
			t.Errorf("%s: %d", in, e)
		}
	}
	if f, e := enumerate.New(sp, scope(1, 3), bounds.Default(sp, scope(1, 3)), formula(t, "some nothing")); f != nil || e != 40 {
		t.Errorf("New: %d", e)
	}
	f, _ := enumerate.New(sp, scope(1, 3), bounds.Default(sp, scope(1, 3)), formula(t, "true"))
	for i := range 200 {
		if m, e := f.Next(); e != api.OK || !model.Valid(sp, m) {
			t.Fatalf("model %d: %d", i, e)
		}
	}
	for range 3 {
		if m, e := f.Next(); e != api.ErrLimit || !reflect.DeepEqual(m, api.Model{}) {
			t.Errorf("model 201: %d", e)
		}
	}
	if l, p, syms := f.Proof(); len(l) > 0 || len(p.Clauses) > 0 || syms != nil {
		t.Error("a proof before the end")
	}
	wide := spec(t, "sort A; field f: A -> A -> A;")
	if _, e := enumerate.New(wide, scope(1, 5), bounds.Default(wide, scope(1, 5)), formula(t, "true")); e != api.ErrLimit {
		t.Errorf("too many gates: %d", e)
	}
}

// P27.1: exactly 200 models are no limit.
func TestLastModel(t *testing.T) {
	sp := spec(t, "sort A ordered; field f: A; field g: A;")
	b := bounds.Default(sp, scope(1, 4))
	// Of the 256 models, 163 have less than five tuples, and 24, 6, 6 and 1 are added.
	exact := "#f + #g < 5 || #f = 2 && #g = 3 || #f = 2 && #g = 4 || #f = 4 && #g = 2 || #f + #g = 8"
	if got, e := enumerate.All(sp, scope(1, 4), b, formula(t, exact)); e != api.OK || len(got) != 200 {
		t.Errorf("%d models, %d", len(got), e)
	}
	if got, e := enumerate.All(sp, scope(1, 4), b, formula(t, exact+" || #f + #g = 7 && A in f && A_first . A_next . A_next in A - g")); e != api.ErrLimit || got != nil {
		t.Errorf("one more: %d", e)
	}
}

// P27.1, P27.4: the premises are those of the chapter, and the proof refutes them.
func TestProof(t *testing.T) {
	sp := spec(t, "sort A; var field f: A; pred p[x: A] { x in f } fact a { some f }")
	sc := scope(2, 2)
	b := bounds.Default(sp, sc)
	n := formula(t, "all x: A | p[x] => after not p[x]")
	f, _ := enumerate.New(sp, sc, b, n)
	var all []api.Model
	for {
		if l, p, _ := f.Proof(); len(l) > 0 || p.Vars > 0 {
			t.Fatal("a proof before the end")
		}
		m, e := f.Next()
		if e != api.OK {
			break
		}
		all = append(all, m)
	}
	c, r, _ := lasso.Problem(sp, sc, b, n)
	c, s := symbreak.Breaking(sp, sc, b, refine.Group(sp, sc, b), c)
	c, r = circuit.And(c, r, s)
	want := cnf.Tseitin(c, r, lasso.Inputs(sp, sc, b))
	for _, m := range all {
		values, _ := lasso.Encode(sp, sc, b, m)
		var clause []int
		for i, v := range values {
			clause = append(clause, map[bool]int{true: -i - 1, false: i + 1}[v])
		}
		want.Clauses = append(want.Clauses, clause)
	}
	l, premises, syms := f.Proof()
	if len(all) == 0 || syms != nil || premises.Vars != want.Vars || !slices.EqualFunc(premises.Clauses, want.Clauses, slices.Equal[[]int]) {
		t.Errorf("%d models, premises %v", len(all), premises)
	}
	if !checker.Refutes(premises, syms, l) {
		t.Error("the proof is not accepted")
	}
	if _, e := f.Next(); e != api.ErrNone {
		t.Error("a further model")
	}
	premises.Clauses[0][0] = 99
	if again, p, _ := f.Proof(); len(again) != len(l) || p.Clauses[0][0] == 99 {
		t.Error("the proof changes")
	}
}

// problem is a sampled problem with few variables.
func problem(s *sample.Source) (api.Spec, api.Scope, []api.Bound) {
	sp := s.Spec(sample.Small)
	sc := s.Scope(sp, 3, 2)
	if s.Chance(50) {
		if b := bounds.Default(sp, sc); lasso.Inputs(sp, sc, b) <= 8 {
			return sp, sc, b
		}
	}
	return sp, sc, s.Bounds(sp, sc, 7)
}

// P27.2, P27.3, P27.4, T6, T10 against exhaustive search on sampled problems.
func TestRandom(t *testing.T) {
	s := sample.New(1)
	large := 0
	for range 250 {
		sp, sc, b := problem(s)
		n := s.Formula(sp, nil, 3, true)
		models, e := brute.Models(sp, sc, b, n)
		if e != api.OK {
			continue
		}
		var want []api.Model
		for _, m := range models {
			if model.Equal(orbit.Canonical(sp, b, m), m) {
				want = append(want, m)
			}
		}
		if len(want) > api.MaxModels {
			continue
		}
		got, e := enumerate.All(sp, sc, b, n)
		if e != api.OK || !same(got, want) {
			t.Fatalf("%s%s within %v: %d models, not %d, %d", printer.Spec(sp), printer.Formula(n), b, len(got), len(want), e)
		}
		if len(want) < len(models) {
			large++
		}
		checkProof(t, sp, sc, b, n, len(want))
	}
	if large < 30 {
		t.Errorf("only %d problems with symmetries", large)
	}
}

// checkProof checks that the proof is accepted, and that the premises are satisfiable without the last blocking clause.
func checkProof(t *testing.T, sp api.Spec, sc api.Scope, b []api.Bound, n api.Node, models int) {
	t.Helper()
	f, _ := enumerate.New(sp, sc, b, n)
	for e := api.OK; e == api.OK; {
		var m api.Model
		m, e = f.Next()
		if e != api.OK {
			break
		}
		if holds, _ := eval.Holds(sp, m, n); !holds || !model.Valid(sp, m) || !bounds.Contains(b, m) {
			t.Fatalf("%s: %v is no model", printer.Formula(n), m)
		}
	}
	l, premises, syms := f.Proof()
	if !checker.Refutes(premises, syms, l) {
		t.Fatalf("%s: the proof is not accepted", printer.Formula(n))
	}
	if models > 0 {
		v := solver.New(premises.Vars)
		for _, clause := range premises.Clauses[:len(premises.Clauses)-1] {
			v.AddClause(clause)
		}
		if v.Solve(nil, 100000) != api.Sat {
			t.Fatalf("%s: the premises without the last clause", printer.Formula(n))
		}
	}
}

// P27.5, P27.6 on sampled problems.
func TestLaws(t *testing.T) {
	s := sample.New(2)
	for range 150 {
		sp, sc, b := problem(s)
		f, g := s.Formula(sp, nil, 3, true), s.Formula(sp, nil, 2, true)
		find := func(b []api.Bound, n api.Node) []api.Model {
			l, e := enumerate.All(sp, sc, b, n)
			if e != api.OK && e != api.ErrLimit {
				t.Fatalf("%s%s: %d", printer.Spec(sp), printer.Formula(n), e)
			}
			if e == api.ErrLimit {
				return make([]api.Model, api.MaxModels+1)
			}
			return l
		}
		first, second := find(b, f), find(b, g)
		both := find(b, api.Node{Op: api.OpAnd, Kids: []api.Node{f, g}})
		either := find(b, api.Node{Op: api.OpOr, Kids: []api.Node{f, g}})
		if len(either) > api.MaxModels {
			continue
		}
		if len(both) > min(len(first), len(second)) || len(either) != len(first)+len(second)-len(both) {
			t.Fatalf("%s, %s: %d, %d, %d, %d models", printer.Formula(f), printer.Formula(g), len(first), len(second), len(both), len(either))
		}
		p := sample.Pick(s, permute.All(sc))
		fixes := true
		for x, y := range p {
			fixes = fixes && (x == y || x < sc.Atoms[0] && !sp.Sorts[0].Ordered || x >= sc.Atoms[0] && !sp.Sorts[1].Ordered)
		}
		if !fixes {
			continue
		}
		var moved []api.Bound
		for _, x := range b {
			moved = append(moved, api.Bound{Lower: permute.Rel(sc, p, x.Lower), Upper: permute.Rel(sc, p, x.Upper)})
		}
		if got := find(moved, f); len(got) != len(first) {
			t.Fatalf("%s: %d and %d models", printer.Formula(f), len(first), len(got))
		}
	}
}
