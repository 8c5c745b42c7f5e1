package permute

import (
	"reflect"
	"slices"
	"testing"

	"armature/api"
	"armature/model"
	"armature/relation"
	"armature/sample"
)

func scope(atoms ...int) api.Scope { return api.Scope{Atoms: atoms} }

func rel(arity int, tuples ...int) api.Rel { return api.Rel{Arity: arity, Tuples: tuples} }

// P11.1: Valid for any arguments.
func TestValid(t *testing.T) {
	for _, x := range []struct {
		sc   api.Scope
		p    []int
		want bool
	}{
		{scope(2, 1), []int{0, 1, 2}, true}, {scope(2, 1), []int{1, 0, 2}, true}, {scope(), nil, true}, {scope(0, 2), []int{1, 0}, true}, {scope(5, 5, 2), []int{4, 3, 2, 1, 0, 9, 8, 7, 6, 5, 11, 10}, true},
		{scope(2, 1), []int{2, 1, 0}, false}, {scope(2, 1), []int{0, 1}, false}, {scope(2, 1), []int{0, 1, 2, 3}, false}, {scope(2), []int{0, 0}, false}, {scope(2), []int{1, 2}, false}, {scope(2), []int{-1, 0}, false},
		{scope(6), []int{0, 1, 2, 3, 4, 5}, false}, {scope(-1), nil, false}, {scope(0, 0, 0, 0, 0), nil, false}, {scope(5, 5, 3), []int{0, 1, 2, 3, 4, 5, 6, 7, 8, 9, 10, 11, 12}, false}, {scope(1<<62, 1<<62), nil, false},
	} {
		if got := Valid(x.sc, x.p); got != x.want {
			t.Errorf("Valid(%v, %v) = %t", x.sc, x.p, got)
		}
	}
	if !Valid(api.Scope{Atoms: []int{1}, Steps: -3}, []int{0}) {
		t.Error("Steps matter")
	}
}

// P11.1: the examples of the chapter.
func TestExamples(t *testing.T) {
	if got := All(scope(2, 1)); !reflect.DeepEqual(got, [][]int{{0, 1, 2}, {1, 0, 2}}) {
		t.Error(got)
	}
	if got := Rel(scope(3), []int{1, 2, 0}, rel(2, 1)); !relation.Equal(got, rel(2, 5)) {
		t.Error(got)
	}
	if got := Rel(scope(1, 2), []int{0, 2, 1}, rel(3, 5, 10, 26)); !relation.Equal(got, rel(3, 7, 13, 20)) {
		t.Error(got)
	}
	p, q := []int{1, 2, 0}, []int{0, 2, 1}
	if got := Compose(p, q); !slices.Equal(got, []int{1, 0, 2}) {
		t.Error(got)
	}
	if got := Inverse(p); !slices.Equal(got, []int{2, 0, 1}) {
		t.Error(got)
	}
	m := api.Model{Scope: api.Scope{Atoms: []int{3}, Steps: 2}, Loop: 1, States: [][]api.Rel{{rel(1, 0), rel(2, 1, 8)}, {rel(1), rel(2, 0)}}}
	want := api.Model{Scope: api.Scope{Atoms: []int{3}, Steps: 2}, Loop: 1, States: [][]api.Rel{{rel(1, 1), rel(2, 0, 5)}, {rel(1), rel(2, 4)}}}
	if got := Model(p, m); !model.Equal(got, want) || m.States[0][0].Tuples[0] != 0 {
		t.Error(got)
	}
	if len(Compose(nil, nil)) != 0 || len(Inverse(nil)) != 0 || Compose(p, []int{0, 5, 1}) != nil || Inverse([]int{7}) != nil {
		t.Error("permutations that are empty or invalid")
	}
	if got := Rel(scope(0), nil, rel(1, 4)); !reflect.DeepEqual(got, api.Rel{}) {
		t.Error(got)
	}
}

// P11.1, P11.5: all permutations.
func TestAll(t *testing.T) {
	for _, x := range []struct {
		sc   api.Scope
		want int
	}{
		{scope(), 1}, {scope(0), 1}, {scope(1), 1}, {scope(3), 6}, {scope(5), 120}, {scope(2, 3), 12}, {scope(2, 0, 2), 4}, {scope(3, 3, 3, 3), 1296}, {scope(5, 5, 2), 28800}, {scope(1, 1, 1, 1), 1},
	} {
		all := All(x.sc)
		if len(all) != x.want {
			t.Errorf("All(%v) has %d elements", x.sc, len(all))
		}
		for i, p := range all {
			if !Valid(x.sc, p) || i > 0 && slices.Compare(all[i-1], p) >= 0 {
				t.Fatalf("All(%v): element %d is %v", x.sc, i, p)
			}
		}
	}
	for _, sc := range []api.Scope{scope(6), scope(-1), scope(5, 5, 3), scope(0, 0, 0, 0, 0)} {
		if got := All(sc); len(got) != 0 {
			t.Errorf("All(%v) = %v", sc, got)
		}
	}
}

// P11.2: the laws of a group.
func TestGroup(t *testing.T) {
	s := sample.New(1)
	for range 300 {
		sc := scope(s.Between(0, 4), s.Between(0, 3), s.Between(0, 2))
		all := All(sc)
		p, q, r, id := sample.Pick(s, all), sample.Pick(s, all), sample.Pick(s, all), all[0]
		if !slices.Equal(Compose(Compose(p, q), r), Compose(p, Compose(q, r))) || !slices.Equal(Compose(p, id), p) || !slices.Equal(Compose(id, p), p) ||
			!slices.Equal(Compose(p, Inverse(p)), id) || !slices.Equal(Compose(Inverse(p), p), id) || !Valid(sc, Compose(p, q)) || !Valid(sc, Inverse(p)) {
			t.Fatalf("%v, %v, %v", p, q, r)
		}
	}
}

// P11.3, P11.4: actions, and their structure.
func TestAction(t *testing.T) {
	s := sample.New(2)
	for range 300 {
		sp := s.Spec(sample.Size{Sorts: 3, Fields: 3, Arity: 3})
		sc := s.Scope(sp, 3, 3)
		m := s.Model(sp, sc, s.Bounds(sp, sc, 40))
		all := All(sc)
		p, q := sample.Pick(s, all), sample.Pick(s, all)
		if !model.Equal(Model(Compose(p, q), m), Model(p, Model(q, m))) || !model.Equal(Model(all[0], m), m) || !model.Valid(sp, Model(p, m)) {
			t.Fatalf("%v, %v: %v", p, q, m)
		}
		checkStructure(t, s, sc, p, q)
	}
}

// checkStructure checks the laws for relations.
func checkStructure(t *testing.T, s *sample.Source, sc api.Scope, p, q []int) {
	t.Helper()
	n := len(p)
	random := func(arity int) api.Rel {
		r := rel(arity)
		count := map[int]int{1: n, 2: n * n, 3: n * n * n}[arity]
		for rank := range count {
			if s.Chance(30) {
				r.Tuples = append(r.Tuples, rank)
			}
		}
		return r
	}
	a, b, u := random(2), random(2), random(1)
	image := func(r api.Rel) api.Rel { return Rel(sc, p, r) }
	product := func(x, y api.Rel) api.Rel { r, _ := relation.Product(n, x, y); return r }
	join := func(x, y api.Rel) api.Rel { r, _ := relation.Join(n, x, y); return r }
	for i, pair := range [][2]api.Rel{
		{image(relation.Union(a, b)), relation.Union(image(a), image(b))}, {image(relation.Inter(a, b)), relation.Inter(image(a), image(b))}, {image(relation.Diff(a, b)), relation.Diff(image(a), image(b))},
		{image(product(u, a)), product(image(u), image(a))}, {image(join(a, b)), join(image(a), image(b))}, {image(join(u, a)), join(image(u), image(a))},
		{Rel(sc, Compose(p, q), a), image(Rel(sc, q, a))}, {Rel(sc, Inverse(p), image(a)), a},
	} {
		if !relation.Equal(pair[0], pair[1]) || !relation.Valid(n, pair[0]) {
			t.Fatalf("law %d: %v, %v, %v", i, p, a, b)
		}
	}
	if len(image(a).Tuples) != len(a.Tuples) {
		t.Fatalf("%v: %v", p, a)
	}
}
