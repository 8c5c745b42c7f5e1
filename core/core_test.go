package core_test

import (
	"reflect"
	"slices"
	"testing"

	"armature/api"
	"armature/bounds"
	"armature/brute"
	"armature/checker"
	"armature/cnf"
	"armature/core"
	"armature/lasso"
	"armature/parser"
	"armature/printer"
	"armature/sample"
	"armature/solver"
)

func spec(t *testing.T, text string) api.Spec {
	t.Helper()
	sp, d := parser.Parse(text)
	if len(d) > 0 {
		t.Fatalf("%q: %v", text, d)
	}
	return sp
}

// formulas parses several formulas.
func formulas(t *testing.T, texts ...string) []api.Node {
	t.Helper()
	var l []api.Node
	for _, text := range texts {
		n, d := parser.ParseFormula(text)
		if len(d) > 0 {
			t.Fatalf("%q: %v", text, d)
		}
		l = append(l, n)
	}
	return l
}

func scope(steps int, atoms ...int) api.Scope { return api.Scope{Atoms: atoms, Steps: steps} }

// P30.1: minimal sets.
func TestMinimal(t *testing.T) {
	sp := spec(t, "sort A; field f: A;")
	for i, x := range []struct {
		l    []string
		want []int
		e    api.Errno
	}{
		{[]string{"some f", "no f", "f = A"}, []int{0, 1}, 0}, {[]string{"f = f", "no A"}, []int{1}, 0}, {[]string{"some f"}, nil, 1}, {nil, nil, 1}, {[]string{"false"}, []int{0}, 0}, {[]string{"no f", "true", "some f", "some f"}, []int{0, 2}, 0},
		{[]string{"false", "no f", "some f"}, []int{0}, 0}, {[]string{"no f", "some f", "false"}, []int{0, 1}, 0}, {[]string{"some nothing"}, nil, 40}, {[]string{"false", "some f -> f", "f in f -> f"}, nil, 42},
	} {
		got, e := core.Minimal(sp, scope(1, 1), bounds.Default(sp, scope(1, 1)), formulas(t, x.l...))
		if e != x.e || !slices.Equal(got, x.want) {
			t.Errorf("case %d: %v, %d", i, got, e)
		}
	}
	facts := spec(t, "sort A; field f: A; fact a { no f } fact b { true }")
	if got, e := core.Minimal(facts, scope(1, 1), bounds.Default(facts, scope(1, 1)), formulas(t, "true", "some f", "f = f")); e != api.OK || !slices.Equal(got, []int{1}) {
		t.Error(got, e)
	}
	never := spec(t, "sort A; fact a { no A }")
	if got, e := core.Minimal(never, scope(1, 1), nil, formulas(t, "true", "false")); e != api.OK || len(got) != 0 {
		t.Error(got, e)
	}
	if got, e := core.Minimal(never, scope(1, 1), nil, nil); e != api.OK || len(got) != 0 {
		t.Error(got, e)
	}
}

// P30.1: Satisfiable and its errors, in their order.
func TestSatisfiable(t *testing.T) {
	sp := spec(t, "sort A; field f: A -> A; pred p[x: A] { true }")
	sc := scope(1, 2)
	b := bounds.Default(sp, sc)
	deep := "some f"
	for range 22 {
		deep = "not " + deep
	}
	long := make([]string, 17)
	for i := range long {
		long[i] = "some f + f + f + f + f + f + f + f + f + f + f + f"
	}
	for i, x := range []struct {
		l    []string
		want bool
		e    api.Errno
	}{
		{nil, true, 0}, {[]string{"some f"}, true, 0}, {[]string{"some f", "no f"}, false, 0}, {[]string{deep}, true, 0}, {[]string{deep, "some nothing"}, false, 2}, {long[:16], true, 0}, {long, false, 2}, {[]string{"some nothing", "p[f]"}, false, 40}, {[]string{"true", "p[f]"}, false, 42},
	} {
		if got, e := core.Satisfiable(sp, sc, b, formulas(t, x.l...)); got != x.want || e != x.e {
			t.Errorf("case %d: %t, %d", i, got, e)
		}
	}
	if got, e := core.Satisfiable(sp, sc, b, []api.Node{{Op: api.OpUniv}}); got || e != api.ErrKind {
		t.Errorf("a relation: %d", e)
	}
	if got, e := core.Satisfiable(sp, sc, b, []api.Node{{Op: api.OpUniv}, {Op: api.OpTrue}}); got || e != api.ErrLimit {
		t.Errorf("a relation in a conjunction: %d", e)
	}
	wide := spec(t, "sort A; field f: A -> A -> A; field g: A -> A -> A;")
	if got, e := core.Satisfiable(wide, scope(1, 5), bounds.Default(wide, scope(1, 5)), formulas(t, "#(f - g) = #(g - f)")); got || e != api.ErrLimit {
		t.Errorf("too large: %d", e)
	}
}

// P30.1, P30.5: refutations, with premises of a known form.
func TestRefutation(t *testing.T) {
	sp := spec(t, "sort A; field f: A; fact a { some f }")
	sc := scope(1, 2)
	b := bounds.Default(sp, sc)
	l := formulas(t, "f in f", "one f", "A in f")
	steps, premises, e := core.Refutation(sp, sc, b, l)
	n := api.Node{Op: api.OpAnd, Kids: []api.Node{l[0], {Op: api.OpAnd, Kids: []api.Node{l[1], l[2]}}}}
	c, r, _ := lasso.Problem(sp, sc, b, n)
	want := cnf.Tseitin(c, r, 2)
	if e != api.OK || premises.Vars != want.Vars || !slices.EqualFunc(premises.Clauses, want.Clauses, slices.Equal[[]int]) || !checker.Refutes(premises, nil, steps) {
		t.Errorf("%v, %v, %d", steps, premises, e)
	}
	for i, x := range []struct {
		l []api.Node
		e api.Errno
	}{{formulas(t, "one f"), 1}, {formulas(t, "some nothing"), 40}, {nil, 1}} {
		steps, premises, e := core.Refutation(sp, sc, b, x.l)
		if e != x.e || steps != nil || !reflect.DeepEqual(premises, api.CNF{}) {
			t.Errorf("case %d: %d", i, e)
		}
	}
}

// P30.2 to P30.5 and T8 against exhaustive search.
func TestRandom(t *testing.T) {
	s := sample.New(1)
	cores, most := 0, 0
	for range 300 {
		sp := s.Spec(sample.Small)
		sc := s.Scope(sp, 2, 2)
		b := s.Bounds(sp, sc, 6)
		var l []api.Node
		for range s.Between(1, 5) {
			l = append(l, s.Formula(sp, nil, s.Between(2, 3), true))
		}
		possible := func(l []api.Node) bool {
			n := api.Node{Op: api.OpTrue}
			for _, x := range l {
				n = api.Node{Op: api.OpAnd, Kids: []api.Node{n, x}}
			}
			models, e := brute.Models(sp, sc, b, n)
			if e != api.OK {
				t.Fatal(e)
			}
			return len(models) > 0
		}
		got, e := core.Satisfiable(sp, sc, b, l)
		if e != api.OK || got != possible(l) {
			t.Fatalf("%s%v: %t, %d", printer.Spec(sp), l, got, e)
		}
		negated := append(slices.Clone(l), api.Node{Op: api.OpNot, Kids: []api.Node{l[0]}})
		if none, e := core.Satisfiable(sp, sc, b, negated); none || e != api.OK {
			t.Fatalf("%v and a negation", l)
		}
		checkRefutation(t, sp, sc, b, l, got)
		set, e := core.Minimal(sp, sc, b, l)
		if got {
			if e != api.ErrArgument || set != nil {
				t.Fatalf("%v: %v, %d", l, set, e)
			}
			continue
		}
		cores++
		most = max(most, len(set))
		chosen := pick(l, set)
		if e != api.OK || possible(chosen) {
			t.Fatalf("%v: %v, %d", l, set, e)
		}
		for i := range set {
			if !possible(slices.Delete(slices.Clone(chosen), i, i+1)) {
				t.Fatalf("%v: %v is not minimal", l, set)
			}
		}
		longer := append(slices.Clone(l), s.Formula(sp, nil, 2, true), api.Node{Op: api.OpTrue})
		if again, e := core.Minimal(sp, sc, b, longer); e != api.OK || !slices.Equal(again, set) {
			t.Fatalf("%v: %v, then %v", l, set, again)
		}
	}
	if cores < 50 || most < 2 {
		t.Errorf("%d cores with at most %d formulas", cores, most)
	}
}

// pick returns the formulas with some indices.
func pick(l []api.Node, set []int) []api.Node {
	var out []api.Node
	for _, i := range set {
		out = append(out, l[i])
	}
	return out
}

// checkRefutation checks P30.5.
func checkRefutation(t *testing.T, sp api.Spec, sc api.Scope, b []api.Bound, l []api.Node, possible bool) {
	t.Helper()
	steps, premises, e := core.Refutation(sp, sc, b, l)
	if possible {
		if e != api.ErrArgument || steps != nil {
			t.Fatalf("%v: %d", l, e)
		}
		return
	}
	if e != api.OK || !checker.Refutes(premises, nil, steps) || len(steps[len(steps)-1].Lits) != 0 {
		t.Fatalf("%v: %v", l, steps)
	}
	given := slices.ContainsFunc(premises.Clauses, func(c []int) bool { return len(c) == 0 })
	if !given && checker.Refutes(premises, nil, steps[:len(steps)-1]) {
		t.Fatalf("%v: the last step of %v is superfluous", l, steps)
	}
	v := solver.New(premises.Vars)
	for _, clause := range premises.Clauses {
		v.AddClause(clause)
	}
	if v.Solve(nil, 100000) != api.Unsat {
		t.Fatalf("%v: the premises are satisfiable", l)
	}
}
