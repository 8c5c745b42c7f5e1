package project_test

import (
	"reflect"
	"slices"
	"testing"

	"armature/api"
	"armature/bounds"
	"armature/brute"
	"armature/model"
	"armature/parser"
	"armature/printer"
	"armature/project"
	"armature/sample"
)

func spec(t *testing.T, text string) api.Spec {
	t.Helper()
	sp, d := parser.Parse(text)
	if len(d) > 0 {
		t.Fatalf("%q: %v", text, d)
	}
	return sp
}

func formula(t *testing.T, text string) api.Node {
	t.Helper()
	n, d := parser.ParseFormula(text)
	if len(d) > 0 {
		t.Fatalf("%q: %v", text, d)
	}
	return n
}

func rel(arity int, tuples ...int) api.Rel { return api.Rel{Arity: arity, Tuples: tuples} }

func scope(steps int, atoms ...int) api.Scope { return api.Scope{Atoms: atoms, Steps: steps} }

func static(f, g []int) api.Model {
	return api.Model{Scope: scope(1, 2), States: [][]api.Rel{{rel(1, f...), rel(1, g...)}}}
}

func same(a, b []api.Model) bool { return slices.EqualFunc(a, b, model.Equal) }

// P28.1: the examples of the chapter.
func TestExamples(t *testing.T) {
	sp := spec(t, "sort A; field f: A; field g: A;")
	b := bounds.Default(sp, scope(1, 2))
	n := formula(t, "some f && f in g")
	for i, x := range []struct {
		fields []int
		want   []api.Model
	}{
		{[]int{0}, []api.Model{static([]int{1}, nil), static([]int{0}, nil), static([]int{0, 1}, nil)}}, {[]int{0, 0, 7, -1}, []api.Model{static([]int{1}, nil), static([]int{0}, nil), static([]int{0, 1}, nil)}}, {nil, []api.Model{static(nil, nil)}},
		{[]int{1}, []api.Model{static(nil, []int{1}), static(nil, []int{0, 1}), static(nil, []int{0})}},
	} {
		if got, e := project.All(sp, scope(1, 2), b, n, x.fields); e != api.OK || !same(got, x.want) {
			t.Errorf("case %d: %v, %d", i, got, e)
		}
	}
	if got, e := project.Different(sp, scope(1, 2), b, n, static([]int{1}, []int{1}), []int{0}); e != api.OK || !model.Equal(got, static([]int{0}, []int{0})) {
		t.Error(got, e)
	}
	if got, e := project.Different(sp, scope(1, 2), b, formula(t, "some f && no g"), static(nil, nil), []int{1}); e != api.ErrNone || !reflect.DeepEqual(got, api.Model{}) {
		t.Error(got, e)
	}
	if got, e := project.All(sp, scope(1, 2), b, formula(t, "false"), []int{0}); e != api.OK || len(got) != 0 {
		t.Error(got, e)
	}
}

// P28.1, P28.2: projections of any models.
func TestProject(t *testing.T) {
	m := api.Model{Scope: scope(2, 3), Loop: 1, States: [][]api.Rel{{rel(1, 0), rel(2, 1, 8), rel(1, 2)}, {rel(1, 1), rel(2), rel(1, 2)}}}
	want := api.Model{Scope: scope(2, 3), Loop: 1, States: [][]api.Rel{{rel(1), rel(2, 1, 8), rel(1)}, {rel(1), rel(2), rel(1)}}}
	got := project.Project(m, []int{1, 9, -3, 1})
	if !model.Equal(got, want) || !model.Equal(project.Project(m, []int{2, 0, 1}), m) {
		t.Error(got)
	}
	got.States[0][1].Tuples[0] = 7
	if m.States[0][1].Tuples[0] != 1 {
		t.Error("Project shares memory")
	}
	s := sample.New(1)
	for range 200 {
		sp := s.Spec(sample.Size{Sorts: 2, Fields: 5, Arity: 2})
		sc := s.Scope(sp, 2, 3)
		m := s.Model(sp, sc, bounds.Default(sp, sc))
		a, b := sample.Subset(s, []int{0, 1, 2, 3, 4}, 50), sample.Subset(s, []int{0, 1, 2, 3, 4}, 50)
		both := slices.DeleteFunc(slices.Clone(a), func(x int) bool { return !slices.Contains(b, x) })
		if !model.Equal(project.Project(project.Project(m, a), b), project.Project(m, both)) {
			t.Fatalf("%v, %v", a, b)
		}
	}
	if got := project.Project(api.Model{}, []int{0}); !reflect.DeepEqual(got, api.Model{}) {
		t.Error(got)
	}
}

// P28.1: errors and limits.
func TestErrors(t *testing.T) {
	sp := spec(t, "sort A; field f: A -> A; field g: A; fact a { some A }")
	b := bounds.Default(sp, scope(1, 3))
	m := api.Model{Scope: scope(1, 3), States: [][]api.Rel{{rel(2), rel(1)}}}
	for in, want := range map[string]api.Errno{"some nothing": 40, "f in A": 42, "true": 2, "no f": 0} {
		if got, e := project.All(sp, scope(1, 3), b, formula(t, in), []int{0}); e != want || e != api.OK && got != nil {
			t.Errorf("%s: %d", in, e)
		}
		if want == 2 {
			want = 0
		}
		if in == "no f" {
			want = api.ErrNone
		}
		if got, e := project.Different(sp, scope(1, 3), b, formula(t, in), m, []int{0}); e != want || e != api.OK && !reflect.DeepEqual(got, api.Model{}) {
			t.Errorf("%s: %d", in, e)
		}
	}
	if got, e := project.All(sp, scope(1, 3), b, formula(t, "true"), []int{1}); e != api.OK || len(got) != 8 {
		t.Errorf("%d projections, %d", len(got), e)
	}
	two := spec(t, "sort A; field f: A; field g: A;")
	exact := "#f + #g < 5 || #f = 2 && #g = 3 || #f = 2 && #g = 4 || #f = 4 && #g = 2 || #f + #g = 8" // 200 models of 256
	if got, e := project.All(two, scope(1, 4), bounds.Default(two, scope(1, 4)), formula(t, exact), []int{0, 1}); e != api.OK || len(got) != 200 {
		t.Errorf("%d projections, %d", len(got), e)
	}
	if got, e := project.All(two, scope(1, 4), bounds.Default(two, scope(1, 4)), formula(t, exact+"|| #f = 1 && #g = 4"), []int{0, 1}); e != api.ErrLimit || got != nil {
		t.Errorf("%d projections, %d", len(got), e)
	}
}

// projections returns the projections of models, each once, in the order of their first occurrence.
func projections(l []api.Model, fields []int) []api.Model {
	var out []api.Model
	for _, m := range l {
		p := project.Project(m, fields)
		if !slices.ContainsFunc(out, func(x api.Model) bool { return model.Equal(x, p) }) {
			out = append(out, p)
		}
	}
	return out
}

// P28.1, P28.3 to P28.6, T7 against exhaustive search.
func TestRandom(t *testing.T) {
	s := sample.New(2)
	differences := 0
	for range 250 {
		sp := s.Spec(sample.Small)
		sc := s.Scope(sp, 2, 2)
		b := s.Bounds(sp, sc, 6)
		f, g := s.Formula(sp, nil, 3, true), s.Formula(sp, nil, 2, true)
		models, e := brute.Models(sp, sc, b, f)
		if e != api.OK {
			continue
		}
		fields := sample.Subset(s, []int{0, 1}, 60)
		got, e := project.All(sp, sc, b, f, fields)
		if e != api.OK || !same(got, projections(models, fields)) {
			t.Fatalf("%s%s, %v: %v, %d", printer.Spec(sp), printer.Formula(f), fields, got, e)
		}
		whole, e := project.All(sp, sc, b, f, []int{0, 1})
		if e != api.OK || !same(whole, models) || !same(got, projections(whole, fields)) {
			t.Fatalf("%s%s: all fields", printer.Spec(sp), printer.Formula(f))
		}
		checkDisjunction(t, sp, sc, b, f, g, fields)
		m := s.Model(sp, sc, b)
		if s.Chance(30) {
			m = s.Model(sp, sc, bounds.Default(sp, sc))
		}
		if len(models) > 0 && s.Chance(50) {
			m = models[0]
		}
		if s.Chance(10) {
			other := s.Scope(sp, 2, 2)
			m = s.Model(sp, other, bounds.Default(sp, other))
		}
		checkDifferent(t, sp, sc, b, f, m, fields, models)
		differences++
	}
	if differences < 100 {
		t.Error(differences)
	}
}

// checkDisjunction checks P28.6.
func checkDisjunction(t *testing.T, sp api.Spec, sc api.Scope, b []api.Bound, f, g api.Node, fields []int) {
	t.Helper()
	x, e1 := project.All(sp, sc, b, f, fields)
	y, e2 := project.All(sp, sc, b, g, fields)
	both, e3 := project.All(sp, sc, b, api.Node{Op: api.OpOr, Kids: []api.Node{f, g}}, fields)
	if e1 != api.OK || e2 != api.OK || e3 != api.OK {
		t.Fatalf("%d, %d, %d", e1, e2, e3)
	}
	parts := projections(append(x, y...), fields)
	for _, m := range both {
		if !slices.ContainsFunc(parts, func(z api.Model) bool { return model.Equal(z, m) }) {
			t.Fatalf("%s, %s: %v", printer.Formula(f), printer.Formula(g), m)
		}
	}
	if len(parts) != len(both) {
		t.Fatalf("%s, %s: %d projections, not %d", printer.Formula(f), printer.Formula(g), len(both), len(parts))
	}
}

// checkDifferent checks P28.5.
func checkDifferent(t *testing.T, sp api.Spec, sc api.Scope, b []api.Bound, f api.Node, m api.Model, fields []int, models []api.Model) {
	t.Helper()
	got, e := project.Different(sp, sc, b, f, m, fields)
	for _, x := range models {
		if !model.Equal(project.Project(x, fields), project.Project(m, fields)) {
			if e != api.OK || !model.Equal(got, x) {
				t.Fatalf("%s, %v, %v: %v, not %v, %d", printer.Formula(f), m, fields, got, x, e)
			}
			return
		}
	}
	if e != api.ErrNone || !reflect.DeepEqual(got, api.Model{}) {
		t.Fatalf("%s, %v, %v: %v, %d", printer.Formula(f), m, fields, got, e)
	}
}
