package repair_test

import (
	"reflect"
	"slices"
	"testing"

	"armature/api"
	"armature/bounds"
	"armature/brute"
	"armature/clone"
	"armature/distance"
	"armature/eval"
	"armature/model"
	"armature/parser"
	"armature/printer"
	"armature/repair"
	"armature/sample"
)

func spec(t *testing.T, text string) api.Spec {
	t.Helper()
	sp, d := parser.Parse(text)
	if len(d) > 0 {
		t.Fatalf("%q: %v", text, d)
	}
	return sp
}

func formula(t *testing.T, text string) api.Node {
	t.Helper()
	n, d := parser.ParseFormula(text)
	if len(d) > 0 {
		t.Fatalf("%q: %v", text, d)
	}
	return n
}

func rel(arity int, tuples ...int) api.Rel { return api.Rel{Arity: arity, Tuples: tuples} }

func add(state, field, tuple int) api.Edit {
	return api.Edit{Kind: api.EditAdd, State: state, Field: field, Tuple: tuple}
}
func remove(state, field, tuple int) api.Edit {
	return api.Edit{Kind: api.EditRemove, State: state, Field: field, Tuple: tuple}
}

func static(tuples ...int) api.Model {
	return api.Model{Scope: api.Scope{Atoms: []int{2}, Steps: 1}, States: [][]api.Rel{{rel(1, tuples...)}}}
}

// P33.1: the examples of the chapter.
func TestExamples(t *testing.T) {
	sp := spec(t, "sort A; field f: A;")
	b := bounds.Default(sp, static().Scope)
	if got, e := repair.Apply(sp, b, static(0), []api.Edit{add(0, 0, 1), remove(0, 0, 0)}); e != api.OK || !model.Equal(got, static(1)) {
		t.Error(got, e)
	}
	if got := repair.Diff(static(0), static(1)); !slices.Equal(got, []api.Edit{remove(0, 0, 0), add(0, 0, 1)}) {
		t.Error(got)
	}
	got, l, e := repair.Repair(sp, static().Scope, b, formula(t, "one f"), static(0, 1))
	if e != api.OK || !model.Equal(got, static(1)) || !slices.Equal(l, []api.Edit{remove(0, 0, 0)}) {
		t.Error(got, l, e)
	}
	for in, want := range map[string]api.Errno{"some f && no f": 270, "some nothing": 40} {
		if got, l, e := repair.Repair(sp, static().Scope, b, formula(t, in), static(0)); e != want || l != nil || !reflect.DeepEqual(got, api.Model{}) {
			t.Errorf("%s: %d", in, e)
		}
	}
	if _, _, e := repair.Repair(sp, static().Scope, b, formula(t, "some nothing"), static(7)); e != api.ErrArgument {
		t.Error(e)
	}
}

// P33.1: edits of variable and other fields, and the first edit that is not admissible.
func TestApply(t *testing.T) {
	sp := spec(t, "sort A; var field f: A; field g: A;")
	m := api.Model{Scope: api.Scope{Atoms: []int{3}, Steps: 2}, Loop: 1, States: [][]api.Rel{{rel(1, 0), rel(1, 1)}, {rel(1, 0, 2), rel(1, 1)}}}
	b := []api.Bound{{Lower: rel(1, 0), Upper: rel(1, 0, 1)}, {Lower: rel(1), Upper: rel(1, 0, 1)}}
	for i, x := range []struct {
		l    []api.Edit
		want [][][]int // tuples by state and field
		e    api.Errno
	}{
		{nil, [][][]int{{{0}, {1}}, {{0, 2}, {1}}}, 0}, {[]api.Edit{add(1, 0, 1)}, [][][]int{{{0}, {1}}, {{0, 1, 2}, {1}}}, 0}, {[]api.Edit{add(1, 1, 0)}, [][][]int{{{0}, {0, 1}}, {{0, 2}, {0, 1}}}, 0},
		{[]api.Edit{remove(0, 1, 1), remove(1, 1, 1)}, [][][]int{{{0}, nil}, {{0, 2}, nil}}, 0}, {[]api.Edit{add(0, 0, 0), remove(0, 0, 1), remove(0, 0, 99), remove(0, 0, -1)}, [][][]int{{{0}, {1}}, {{0, 2}, {1}}}, 0},
		{[]api.Edit{remove(1, 0, 2)}, [][][]int{{{0}, {1}}, {{0}, {1}}}, 0}, {[]api.Edit{remove(1, 0, 2), add(1, 0, 2)}, nil, 330}, {[]api.Edit{add(1, 0, 2)}, nil, 330}, {[]api.Edit{remove(0, 0, 0)}, nil, 330}, {[]api.Edit{add(0, 0, -1)}, nil, 330},
		{[]api.Edit{{Kind: 3}}, nil, 1}, {[]api.Edit{{}}, nil, 1}, {[]api.Edit{add(2, 0, 1)}, nil, 1}, {[]api.Edit{add(-1, 0, 1)}, nil, 1}, {[]api.Edit{add(0, 2, 1)}, nil, 1}, {[]api.Edit{remove(0, -1, 1)}, nil, 1},
		{[]api.Edit{add(0, 0, 99), {Kind: 9}}, nil, 330}, {[]api.Edit{{Kind: 9}, add(0, 0, 99)}, nil, 1}, {[]api.Edit{{Kind: 9, State: 9, Tuple: 99}}, nil, 1}, {[]api.Edit{add(5, 0, 99)}, nil, 1},
	} {
		before := clone.Model(m)
		got, e := repair.Apply(sp, b, m, x.l)
		if e != x.e || e != api.OK && !reflect.DeepEqual(got, api.Model{}) || !model.Equal(before, m) {
			t.Errorf("case %d: %v, %d", i, got, e)
		}
		if e != api.OK {
			continue
		}
		want := clone.Model(m)
		for s, fields := range x.want {
			for f, tuples := range fields {
				want.States[s][f].Tuples = tuples
			}
		}
		if !model.Equal(got, want) {
			t.Errorf("case %d: %v", i, got)
		}
	}
}

// P33.1: differences, also of models that do not fit together.
func TestDiff(t *testing.T) {
	a := api.Model{Scope: api.Scope{Atoms: []int{3}, Steps: 2}, States: [][]api.Rel{{rel(1, 0, 2), rel(2, 4)}, {rel(1), rel(2, 1)}}}
	b := api.Model{Scope: api.Scope{Atoms: []int{3}, Steps: 2}, Loop: 1, States: [][]api.Rel{{rel(1, 1, 2), rel(1, 4)}, {rel(1, 0), rel(2, 0)}}}
	if got := repair.Diff(a, b); !slices.Equal(got, []api.Edit{remove(0, 0, 0), add(0, 0, 1), add(1, 0, 0), add(1, 1, 0), remove(1, 1, 1)}) {
		t.Error(got)
	}
	for i, change := range []func(m *api.Model){
		func(m *api.Model) { m.Scope.Atoms[0] = 2 }, func(m *api.Model) { m.Scope.Steps = 3 }, func(m *api.Model) { m.States = m.States[:1] }, func(m *api.Model) { m.States[1] = m.States[1][:1] },
	} {
		c := clone.Model(b)
		change(&c)
		if got := repair.Diff(a, c); len(got) != 0 || len(repair.Diff(c, a)) != 0 {
			t.Errorf("change %d: %v", i, got)
		}
	}
}

// edits returns edits that are admissible.
func edits(s *sample.Source, sp api.Spec, b []api.Bound, m api.Model) []api.Edit {
	var l []api.Edit
	for range s.Below(6) {
		f := s.Below(len(sp.Fields))
		x := api.Edit{Kind: s.Between(1, 2), State: s.Below(len(m.States)), Field: f, Tuple: s.Below(9)}
		if _, e := repair.Apply(sp, b, m, []api.Edit{x}); e == api.OK {
			l = append(l, x)
		}
	}
	return l
}

// opposite returns the opposite edit.
func opposite(x api.Edit) api.Edit {
	x.Kind = api.EditAdd + api.EditRemove - x.Kind
	return x
}

// P33.2 to P33.5 on sampled models and edits.
func TestRandom(t *testing.T) {
	s := sample.New(1)
	for range 600 {
		sp := s.Spec(sample.Small)
		sc := s.Scope(sp, 3, 3)
		b := s.Bounds(sp, sc, 20)
		m, other := s.Model(sp, sc, b), s.Model(sp, sc, b)
		l, more := edits(s, sp, b, m), edits(s, sp, b, m)
		apply := func(m api.Model, l []api.Edit) api.Model {
			got, e := repair.Apply(sp, b, m, l)
			if e != api.OK {
				t.Fatalf("%v: %v, %d", m, l, e)
			}
			return got
		}
		got := apply(m, l)
		if !model.Valid(sp, got) || !bounds.Contains(b, got) || !model.Equal(apply(got, more), apply(m, slices.Concat(l, more))) || !model.Equal(apply(got, l), got) {
			t.Fatalf("%v: %v", m, l)
		}
		checkEdits(t, sp, m, got, l)
		difference := repair.Diff(m, other)
		moved := apply(m, difference)
		loops := 0
		if m.Loop != other.Loop {
			loops = 1
		}
		if !slices.EqualFunc(moved.States, other.States, func(x, y []api.Rel) bool {
			return reflect.DeepEqual(clone.State(x), clone.State(y)) || len(repair.Diff(moved, other)) == 0
		}) || len(difference) != distance.Distance(m, other)-loops {
			t.Fatalf("%v, %v: %v", m, other, difference)
		}
		back := repair.Diff(other, m)
		if !slices.EqualFunc(difference, back, func(x, y api.Edit) bool { return x == opposite(y) }) || !model.Equal(apply(got, repair.Diff(got, m)), m) {
			t.Fatalf("%v, %v: %v, %v", m, other, difference, back)
		}
	}
}

// checkEdits checks that tuples that are not edited remain, and that the last edit of each tuple counts.
func checkEdits(t *testing.T, sp api.Spec, m, got api.Model, l []api.Edit) {
	t.Helper()
	for i, state := range got.States {
		for j := range state {
			for tuple := range 125 {
				want := slices.Contains(m.States[i][j].Tuples, tuple)
				for _, x := range l {
					if x.Field == j && x.Tuple == tuple && (x.State == i || !sp.Fields[j].Var) {
						want = x.Kind == api.EditAdd
					}
				}
				if slices.Contains(state[j].Tuples, tuple) != want {
					t.Fatalf("%v: %v leads to %v", m, l, got)
				}
			}
		}
	}
}

// P33.6 and T7 against exhaustive search.
func TestRepairs(t *testing.T) {
	s := sample.New(2)
	repaired := 0
	for range 200 {
		sp := s.Spec(sample.Small)
		sc := s.Scope(sp, 2, 2)
		b := s.Bounds(sp, sc, 6)
		n := s.Formula(sp, nil, 3, true)
		m := s.Model(sp, sc, bounds.Default(sp, sc))
		got, l, e := repair.Repair(sp, sc, b, n, m)
		models, _ := brute.Models(sp, sc, b, n)
		if len(models) == 0 {
			if e == api.OK {
				t.Fatalf("%s: %v", printer.Formula(n), got)
			}
			continue
		}
		repaired++
		holds, _ := eval.Holds(sp, got, n)
		if e != api.OK || !holds || !bounds.Contains(b, got) || !slices.Equal(l, repair.Diff(m, got)) {
			t.Fatalf("%s from %v: %v, %v, %d", printer.Formula(n), m, got, l, e)
		}
		for _, x := range models {
			if distance.Distance(m, x) < distance.Distance(m, got) {
				t.Fatalf("%s from %v: %v, but %v is nearer", printer.Formula(n), m, got, x)
			}
		}
		if again, none, e := repair.Repair(sp, sc, b, n, got); e != api.OK || len(none) != 0 || !model.Equal(again, got) {
			t.Fatalf("%s: %v is repaired to %v", printer.Formula(n), got, again)
		}
	}
	if repaired < 50 {
		t.Error(repaired)
	}
}
