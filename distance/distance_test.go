package distance_test

import (
	"reflect"
	"testing"

	"armature/api"
	"armature/bounds"
	"armature/brute"
	"armature/clone"
	"armature/distance"
	"armature/model"
	"armature/parser"
	"armature/permute"
	"armature/printer"
	"armature/refine"
	"armature/sample"
)

func spec(t *testing.T, text string) api.Spec {
	t.Helper()
	sp, d := parser.Parse(text)
	if len(d) > 0 {
		t.Fatalf("%q: %v", text, d)
	}
	return sp
}

func formula(t *testing.T, text string) api.Node {
	t.Helper()
	n, d := parser.ParseFormula(text)
	if len(d) > 0 {
		t.Fatalf("%q: %v", text, d)
	}
	return n
}

func rel(arity int, tuples ...int) api.Rel { return api.Rel{Arity: arity, Tuples: tuples} }

func scope(steps int, atoms ...int) api.Scope { return api.Scope{Atoms: atoms, Steps: steps} }

// trace returns a model over three atoms with a unary field.
func trace(loop int, states ...[]int) api.Model {
	m := api.Model{Scope: scope(len(states), 3), Loop: loop}
	for _, x := range states {
		m.States = append(m.States, []api.Rel{rel(1, x...)})
	}
	return m
}

// P29.1: distances, of models that fit together and others.
func TestDistance(t *testing.T) {
	base := trace(0, []int{0, 1}, []int{2})
	changed := func(change func(m *api.Model)) api.Model {
		m := clone.Model(base)
		change(&m)
		return m
	}
	for i, x := range []struct {
		a, b api.Model
		want int
	}{
		{trace(0, []int{0, 1}), trace(0, []int{1, 2}), 2}, {trace(0, []int{0}, nil), trace(1, []int{0}, []int{0}), 2}, {base, base, 0}, {api.Model{}, api.Model{}, 0}, {trace(0, nil), trace(0, []int{0, 1, 2}), 3},
		{base, changed(func(m *api.Model) { m.Loop = 1 }), 1}, {base, changed(func(m *api.Model) { m.Scope.Atoms[0] = 2 }), -1}, {base, changed(func(m *api.Model) { m.Scope.Steps = 3 }), -1}, {base, changed(func(m *api.Model) { m.States = m.States[:1] }), -1},
		{base, changed(func(m *api.Model) { m.States[1] = append(m.States[1], rel(1)) }), -1}, {base, changed(func(m *api.Model) { m.Scope.Atoms = append(m.Scope.Atoms, 1) }), -1},
	} {
		if got := distance.Distance(x.a, x.b); got != x.want || distance.Distance(x.b, x.a) != got {
			t.Errorf("case %d: %d", i, got)
		}
	}
}

// P29.1: the first of several best models, and errors in their order.
func TestBest(t *testing.T) {
	sp := spec(t, "sort A; field f: A; fact a { some f }")
	sc := scope(1, 3)
	b := bounds.Default(sp, sc)
	for _, x := range []struct {
		in       string
		from     []int
		want     []int
		distance int
		e        api.Errno
	}{
		{"true", []int{0, 1}, []int{0, 1}, 0, 0}, {"one f", []int{0, 1}, []int{1}, 1, 0}, {"true", nil, []int{2}, 1, 0}, {"#f = 2", []int{0}, []int{0, 2}, 1, 0}, {"no f", []int{0}, nil, 0, 270}, {"some nothing", []int{0}, nil, 0, 40},
	} {
		got, d, e := distance.Nearest(sp, sc, b, formula(t, x.in), trace(0, x.from))
		if e != x.e || d != x.distance || e == api.OK && !model.Equal(got, trace(0, x.want)) || e != api.OK && !reflect.DeepEqual(got, api.Model{}) {
			t.Errorf("%s from %v: %v, %d, %d", x.in, x.from, got, d, e)
		}
	}
	for _, x := range []struct {
		in       string
		min, max []int
		e        api.Errno
	}{{"true", []int{2}, []int{0, 1, 2}, 0}, {"#f < 3", []int{2}, []int{1, 2}, 0}, {"1 < #f", []int{1, 2}, []int{0, 1, 2}, 0}, {"no f", nil, nil, 270}, {"some nothing", nil, nil, 40}} {
		low, e := distance.Minimal(sp, sc, b, formula(t, x.in))
		high, e2 := distance.Maximal(sp, sc, b, formula(t, x.in))
		if e != x.e || e2 != x.e || e == api.OK && (!model.Equal(low, trace(0, x.min)) || !model.Equal(high, trace(0, x.max))) || e != api.OK && !(reflect.DeepEqual(low, api.Model{}) && reflect.DeepEqual(high, api.Model{})) {
			t.Errorf("%s: %v, %v, %d, %d", x.in, low, high, e, e2)
		}
	}
	n := formula(t, "some nothing")
	for i, m := range []api.Model{{}, trace(1, nil), trace(0, nil, nil), trace(0, []int{3}), {Scope: scope(1, 2), States: [][]api.Rel{{rel(1)}}}} {
		if got, d, e := distance.Nearest(sp, sc, b, n, m); e != api.ErrArgument || d != 0 || !reflect.DeepEqual(got, api.Model{}) {
			t.Errorf("model %d: %d", i, e)
		}
	}
	if _, _, e := distance.Nearest(sp, sc, nil, n, trace(0, nil)); e != api.ErrArgument {
		t.Errorf("bounds of other fields: %d", e)
	}
	wide := spec(t, "sort A; field f: A -> A;")
	many := scope(1, 4)
	if _, e := distance.Minimal(wide, many, bounds.Default(wide, many), formula(t, "true")); e != api.ErrLimit {
		t.Errorf("too many instances: %d", e)
	}
}

// P29.2 to P29.6 on sampled problems.
func TestRandom(t *testing.T) {
	s := sample.New(1)
	for range 250 {
		sp := s.Spec(sample.Small)
		sc := s.Scope(sp, 2, 2)
		b := s.Bounds(sp, sc, 6)
		all := bounds.Default(sp, sc)
		x, y, z := s.Model(sp, sc, all), s.Model(sp, sc, all), s.Model(sp, sc, b)
		d := distance.Distance
		if (d(x, y) == 0) != model.Equal(x, y) || d(x, y) != d(y, x) || d(x, z) > d(x, y)+d(y, z) || d(x, x) != 0 || d(x, y) < 0 {
			t.Fatalf("%v, %v, %v: no metric", x, y, z)
		}
		p := sample.Pick(s, permute.All(sc))
		if d(permute.Model(p, x), permute.Model(p, y)) != d(x, y) {
			t.Fatalf("%v, %v under %v", x, y, p)
		}
		n := s.Formula(sp, nil, 3, true)
		models, e := brute.Models(sp, sc, b, n)
		got, least, f := distance.Nearest(sp, sc, b, n, x)
		if e != api.OK || len(models) == 0 {
			if f == api.OK {
				t.Fatalf("%s: %v", printer.Formula(n), got)
			}
			continue
		}
		first := -1
		for i, m := range models {
			if d(x, m) < least {
				t.Fatalf("%s from %v: %v, not %v", printer.Formula(n), x, got, m)
			}
			if first < 0 && d(x, m) == least {
				first = i
			}
		}
		if f != api.OK || !model.Equal(got, models[first]) {
			t.Fatalf("%s from %v: %v, not %v", printer.Formula(n), x, got, models[first])
		}
		checkLaws(t, s, sp, sc, b, n, x, least, models)
	}
}

// checkLaws checks that models of the formula are nearest to themselves, symmetries, extremes and stronger formulas.
func checkLaws(t *testing.T, s *sample.Source, sp api.Spec, sc api.Scope, b []api.Bound, n api.Node, x api.Model, least int, models []api.Model) {
	t.Helper()
	m := sample.Pick(s, models)
	if got, zero, _ := distance.Nearest(sp, sc, b, n, m); zero != 0 || !model.Equal(got, m) {
		t.Fatalf("%s: %v is not nearest to itself", printer.Formula(n), m)
	}
	q := sample.Pick(s, refine.Group(sp, sc, b))
	if _, moved, _ := distance.Nearest(sp, sc, b, n, permute.Model(q, x)); moved != least {
		t.Fatalf("%s: %d and %d", printer.Formula(n), least, moved)
	}
	stronger := api.Node{Op: api.OpAnd, Kids: []api.Node{n, s.Formula(sp, nil, 2, true)}}
	if _, far, e := distance.Nearest(sp, sc, b, stronger, x); e == api.OK && far < least {
		t.Fatalf("%s: %d and %d", printer.Formula(stronger), least, far)
	}
	if sc.Steps > 1 {
		return
	}
	empty, full := api.Model{Scope: sc, States: [][]api.Rel{nil}}, api.Model{Scope: sc, States: [][]api.Rel{nil}}
	for _, y := range bounds.Default(sp, sc) {
		empty.States[0] = append(empty.States[0], rel(y.Upper.Arity))
		full.States[0] = append(full.States[0], y.Upper)
	}
	low, _ := distance.Minimal(sp, sc, b, n)
	high, _ := distance.Maximal(sp, sc, b, n)
	first, _, _ := distance.Nearest(sp, sc, b, n, empty)
	last, _, _ := distance.Nearest(sp, sc, b, n, full)
	if !model.Equal(low, first) || !model.Equal(high, last) {
		t.Fatalf("%s: %v, %v, %v, %v", printer.Formula(n), low, first, high, last)
	}
}
