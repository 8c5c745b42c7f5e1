package brute_test

import (
	"slices"
	"testing"

	"armature/api"
	"armature/bounds"
	"armature/brute"
	"armature/eval"
	"armature/lasso"
	"armature/model"
	"armature/parser"
	"armature/permute"
	"armature/printer"
	"armature/refine"
	"armature/sample"
)

func spec(t *testing.T, text string) api.Spec {
	t.Helper()
	sp, d := parser.Parse(text)
	if len(d) > 0 {
		t.Fatalf("%q: %v", text, d)
	}
	return sp
}

func formula(t *testing.T, text string) api.Node {
	t.Helper()
	n, d := parser.ParseFormula(text)
	if len(d) > 0 {
		t.Fatalf("%q: %v", text, d)
	}
	return n
}

func rel(arity int, tuples ...int) api.Rel { return api.Rel{Arity: arity, Tuples: tuples} }

func scope(steps int, atoms ...int) api.Scope { return api.Scope{Atoms: atoms, Steps: steps} }

// values lists the tuples of the first field in each state, with the loop.
func values(l []api.Model) [][]int {
	var out [][]int
	for _, m := range l {
		x := []int{m.Loop}
		for _, state := range m.States {
			x = append(append(x, -1), state[0].Tuples...)
		}
		out = append(out, x)
	}
	return out
}

func equal(a, b [][]int) bool { return slices.EqualFunc(a, b, slices.Equal[[]int]) }

// P25.1: instances and models of small problems, in order.
func TestExamples(t *testing.T) {
	fixed, variable := spec(t, "sort A; field f: A;"), spec(t, "sort A; var field f: A;")
	low := []api.Bound{{Lower: rel(1, 0), Upper: rel(1, 0, 1)}}
	for i, x := range []struct {
		sp   api.Spec
		sc   api.Scope
		b    []api.Bound
		in   string
		want [][]int
	}{
		{fixed, scope(1, 2), bounds.Default(fixed, scope(1, 2)), "true", [][]int{{0, -1}, {0, -1, 1}, {0, -1, 0}, {0, -1, 0, 1}}}, {fixed, scope(1, 2), low, "true", [][]int{{0, -1, 0}, {0, -1, 0, 1}}},
		{fixed, scope(2, 2), low, "true", [][]int{{0, -1, 0, -1, 0}, {0, -1, 0, 1, -1, 0, 1}, {1, -1, 0, -1, 0}, {1, -1, 0, 1, -1, 0, 1}}}, {fixed, scope(1, 2), low, "some A - f", [][]int{{0, -1, 0}}},
		{variable, scope(2, 2), low, "true", [][]int{{0, -1, 0, -1, 0}, {0, -1, 0, -1, 0, 1}, {0, -1, 0, 1, -1, 0}, {0, -1, 0, 1, -1, 0, 1}, {1, -1, 0, -1, 0}, {1, -1, 0, -1, 0, 1}, {1, -1, 0, 1, -1, 0}, {1, -1, 0, 1, -1, 0, 1}}},
		{variable, scope(2, 2), low, "one f && after #f = 2 && after after one f", [][]int{{0, -1, 0, -1, 0, 1}}}, {fixed, scope(1, 2), low, "no f", nil},
	} {
		got, e := brute.Models(x.sp, x.sc, x.b, formula(t, x.in))
		if e != api.OK || !equal(values(got), x.want) {
			t.Errorf("case %d: %v, %d", i, values(got), e)
		}
	}
	if got, e := brute.Instances(api.Spec{}, scope(1), nil); e != api.OK || len(got) != 1 {
		t.Error("no fields")
	}
}

// P25.1: errors, in their order.
func TestErrors(t *testing.T) {
	sp := spec(t, "sort A; field f: A -> A; fact a { some f }")
	b := bounds.Default(sp, scope(1, 2))
	for i, x := range []struct {
		sc api.Scope
		b  []api.Bound
		in string
		e  api.Errno
	}{
		{scope(1, 6), b, "some nothing", 1}, {scope(5, 2), b, "true", 1}, {scope(1), b, "true", 1}, {scope(1, 2), nil, "some nothing", 1}, {scope(1, 1), b, "true", 1},
		{scope(1, 4), bounds.Default(sp, scope(1, 4)), "some nothing", 2}, {scope(1, 5), bounds.Default(sp, scope(1, 5)), "true", 2}, {scope(1, 2), b, "some nothing", 40}, {scope(1, 2), b, "true", 0},
		{scope(1, 2), b, "all x: f . f | true", 42},
	} {
		got, e := brute.Models(sp, x.sc, x.b, formula(t, x.in))
		if e != x.e || e != api.OK && got != nil {
			t.Errorf("case %d: %d", i, e)
		}
		if got, e := brute.Instances(sp, x.sc, x.b); x.e < 3 && (e != x.e || e != api.OK && got != nil) {
			t.Errorf("case %d: Instances has the error %d", i, e)
		}
	}
	one := spec(t, "sort A; var field f: A -> A;")
	upper := func(n int) []api.Bound {
		u := rel(2)
		for i := range n {
			u.Tuples = append(u.Tuples, i)
		}
		return []api.Bound{{Lower: rel(2), Upper: u}}
	}
	for steps, most := range map[int]int{1: 14, 2: 6, 3: 4, 4: 3} {
		if got, e := brute.Instances(one, scope(steps, 4), upper(most)); e != api.OK || len(got) != steps<<(most*steps) {
			t.Errorf("%d steps: %d instances, %d", steps, len(got), e)
		}
		if _, e := brute.Instances(one, scope(steps, 4), upper(most+1)); e != api.ErrLimit {
			t.Errorf("%d steps: %d", steps, e)
		}
	}
}

// P25.2 to P25.6 on sampled problems.
func TestRandom(t *testing.T) {
	s := sample.New(1)
	for range 120 {
		sp := s.Spec(sample.Small)
		sc := s.Scope(sp, 2, 3)
		b := s.Bounds(sp, sc, 6)
		all, e := brute.Instances(sp, sc, b)
		choices := lasso.Inputs(sp, sc, b)
		if sc.Steps > 1 {
			choices -= sc.Steps
		}
		if e != api.OK || len(all) != sc.Steps<<choices {
			t.Fatalf("%d instances of %v", len(all), b)
		}
		for i, m := range all {
			if !model.Valid(sp, m) || !bounds.Contains(b, m) || i > 0 && (!brute.Less(b, all[i-1], m) || brute.Less(b, m, all[i-1])) || brute.Less(b, m, m) {
				t.Fatalf("instance %d: %v", i, m)
			}
		}
		n := s.Formula(sp, nil, 3, true)
		checkModels(t, s, sp, sc, b, n, all)
	}
}

// contains reports whether a list contains a model.
func contains(l []api.Model, m api.Model) bool {
	return slices.ContainsFunc(l, func(x api.Model) bool { return model.Equal(x, m) })
}

// checkModels checks models of a formula, its negation and conjunctions, within several bounds.
func checkModels(t *testing.T, s *sample.Source, sp api.Spec, sc api.Scope, b []api.Bound, n api.Node, all []api.Model) {
	t.Helper()
	other := s.Formula(sp, nil, 2, true)
	find := func(b []api.Bound, n api.Node) []api.Model {
		l, e := brute.Models(sp, sc, b, n)
		if e != api.OK {
			t.Fatalf("%s%s: %d", printer.Spec(sp), printer.Formula(n), e)
		}
		return l
	}
	yes, no, second := find(b, n), find(b, api.Node{Op: api.OpNot, Kids: []api.Node{n}}), find(b, other)
	both := find(b, api.Node{Op: api.OpAnd, Kids: []api.Node{n, other}})
	narrow := s.Bounds(sp, sc, 6)
	meet, e := bounds.Meet(b, narrow)
	var within []api.Model
	if e == api.OK {
		within = find(meet, n)
	}
	group := refine.Group(sp, sc, b)
	for _, m := range all {
		facts, _ := eval.Holds(sp, m, api.Node{Op: api.OpTrue})
		in := contains(yes, m)
		if facts != (in != contains(no, m)) || in && contains(no, m) || contains(both, m) != (in && contains(second, m)) {
			t.Fatalf("%s%s: %v", printer.Spec(sp), printer.Formula(n), m)
		}
		if contains(within, m) != (in && bounds.Contains(narrow, m)) {
			t.Fatalf("%s%s within %v: %v", printer.Spec(sp), printer.Formula(n), narrow, m)
		}
		if p := sample.Pick(s, group); in != contains(yes, permute.Model(p, m)) {
			t.Fatalf("%s%s: %v under %v", printer.Spec(sp), printer.Formula(n), m, p)
		}
	}
	for i := 1; i < len(yes); i++ {
		if !brute.Less(b, yes[i-1], yes[i]) {
			t.Fatalf("%s%s: model %d is not in order", printer.Spec(sp), printer.Formula(n), i)
		}
	}
}

// Models share no memory with each other or with the arguments.
func TestMemory(t *testing.T) {
	sp := spec(t, "sort A; field f: A;")
	b := []api.Bound{{Lower: rel(1, 0), Upper: rel(1, 0, 1)}}
	sc := scope(2, 2)
	l, _ := brute.Instances(sp, sc, b)
	l[0].States[0][0].Tuples[0], l[0].Scope.Atoms[0] = 7, 7
	if l[0].States[1][0].Tuples[0] != 0 || l[1].States[0][0].Tuples[0] != 0 || b[0].Lower.Tuples[0] != 0 || sc.Atoms[0] != 2 || l[1].Scope.Atoms[0] != 2 {
		t.Error("memory is shared")
	}
}
