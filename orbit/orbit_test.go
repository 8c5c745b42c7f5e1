package orbit_test

import (
	"slices"
	"testing"

	"armature/api"
	"armature/bounds"
	"armature/brute"
	"armature/model"
	"armature/orbit"
	"armature/permute"
	"armature/refine"
	"armature/sample"
)

func rel(arity int, tuples ...int) api.Rel { return api.Rel{Arity: arity, Tuples: tuples} }

func static(tuples ...int) api.Model {
	return api.Model{Scope: api.Scope{Atoms: []int{2}, Steps: 1}, States: [][]api.Rel{{rel(1, tuples...)}}}
}

func same(a, b []api.Model) bool { return slices.EqualFunc(a, b, model.Equal) }

// P26.1: the examples of the chapter, and bounds that distinguish atoms.
func TestExamples(t *testing.T) {
	sp := api.Spec{Sorts: []api.Sort{{Name: "A"}}, Fields: []api.Field{{Name: "f", Sorts: []int{0}}}}
	ordered := api.Spec{Sorts: []api.Sort{{Name: "A", Ordered: true}}, Fields: sp.Fields}
	b := bounds.Default(sp, api.Scope{Atoms: []int{2}, Steps: 1})
	low := []api.Bound{{Lower: rel(1, 0), Upper: rel(1, 0, 1)}}
	for i, x := range []struct {
		sp         api.Spec
		b          []api.Bound
		m          api.Model
		canonical  api.Model
		orbit      []api.Model
		stabilizer int
	}{
		{sp, b, static(0), static(1), []api.Model{static(1), static(0)}, 1}, {sp, b, static(0, 1), static(0, 1), []api.Model{static(0, 1)}, 2}, {sp, b, static(), static(), []api.Model{static()}, 2},
		{ordered, b, static(0), static(0), []api.Model{static(0)}, 1}, {sp, low, static(0), static(0), []api.Model{static(0)}, 1},
	} {
		if got := orbit.Canonical(x.sp, x.b, x.m); !model.Equal(got, x.canonical) {
			t.Errorf("case %d: Canonical is %v", i, got)
		}
		if got := orbit.Orbit(x.sp, x.b, x.m); !same(got, x.orbit) {
			t.Errorf("case %d: Orbit is %v", i, got)
		}
		if got := orbit.Stabilizer(x.sp, x.b, x.m); len(got) != x.stabilizer || !slices.Equal(got[0], []int{0, 1}) {
			t.Errorf("case %d: Stabilizer is %v", i, got)
		}
	}
	if !orbit.Isomorphic(sp, b, static(0), static(1)) || orbit.Isomorphic(sp, b, static(0), static()) || orbit.Isomorphic(ordered, b, static(0), static(1)) {
		t.Error("Isomorphic")
	}
	m := static(1)
	orbit.Canonical(sp, b, m).States[0][0].Tuples[0] = 7
	if m.States[0][0].Tuples[0] != 1 {
		t.Error("Canonical shares memory")
	}
}

// contains reports whether a list contains a permutation.
func contains(l [][]int, p []int) bool {
	return slices.ContainsFunc(l, func(q []int) bool { return slices.Equal(p, q) })
}

// P26.1 to P26.6 on sampled models.
func TestRandom(t *testing.T) {
	s := sample.New(1)
	large := 0
	for range 400 {
		sp := s.Spec(sample.Size{Sorts: 2, Fields: 2, Arity: 2, Temporal: true})
		sc := s.Scope(sp, 3, 2)
		b := bounds.Default(sp, sc)
		if s.Chance(30) {
			b = s.Bounds(sp, sc, 10)
		}
		group := refine.Group(sp, sc, b)
		m, other := s.Model(sp, sc, b), s.Model(sp, sc, b)
		p := sample.Pick(s, group)
		image := permute.Model(p, m)
		canonical, all, fixed := orbit.Canonical(sp, b, m), orbit.Orbit(sp, b, m), orbit.Stabilizer(sp, b, m)
		if len(all) > 2 {
			large++
		}
		if !model.Equal(canonical, all[0]) || !model.Equal(orbit.Canonical(sp, b, image), canonical) || !model.Equal(orbit.Canonical(sp, b, canonical), canonical) || !orbit.Isomorphic(sp, b, m, canonical) {
			t.Fatalf("%v: canonical %v", m, canonical)
		}
		if len(all)*len(fixed) != len(group) || !same(orbit.Orbit(sp, b, image), all) || !orbit.Isomorphic(sp, b, m, image) || !orbit.Isomorphic(sp, b, image, m) {
			t.Fatalf("%v: orbit %v", m, all)
		}
		member := false
		for i, x := range all {
			member = member || model.Equal(x, m)
			moved := permute.Model(p, x)
			if i > 0 && !brute.Less(b, all[i-1], x) || !model.Valid(sp, x) || !bounds.Contains(b, x) || !slices.ContainsFunc(all, func(y api.Model) bool { return model.Equal(moved, y) }) {
				t.Fatalf("%v: orbit %v", m, all)
			}
		}
		if iso := orbit.Isomorphic(sp, b, m, other); !member || iso != model.Equal(orbit.Canonical(sp, b, other), canonical) || iso != orbit.Isomorphic(sp, b, other, m) {
			t.Fatalf("%v and %v: %t", m, other, iso)
		}
		checkStabilizer(t, sp, b, m, group, fixed, p)
	}
	if large < 50 {
		t.Errorf("only %d large orbits", large)
	}
}

// checkStabilizer checks that a stabilizer is exact, a group, and conjugate to that of an image.
func checkStabilizer(t *testing.T, sp api.Spec, b []api.Bound, m api.Model, group, fixed [][]int, p []int) {
	t.Helper()
	var want [][]int
	for _, q := range group {
		if model.Equal(permute.Model(q, m), m) {
			want = append(want, q)
		}
	}
	if !slices.EqualFunc(fixed, want, slices.Equal[[]int]) {
		t.Fatalf("%v: stabilizer %v", m, fixed)
	}
	moved := orbit.Stabilizer(sp, b, permute.Model(p, m))
	for _, q := range fixed {
		conjugate := permute.Compose(p, permute.Compose(q, permute.Inverse(p)))
		if !contains(fixed, permute.Inverse(q)) || !contains(fixed, permute.Compose(q, fixed[len(fixed)-1])) || !contains(moved, conjugate) || len(moved) != len(fixed) {
			t.Fatalf("%v: stabilizer %v, %v", m, fixed, moved)
		}
	}
}
