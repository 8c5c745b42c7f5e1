package bounds

import (
	"reflect"
	"testing"

	"armature/api"
	"armature/model"
	"armature/relation"
	"armature/sample"
	"armature/universe"
)

func rel(arity int, tuples ...int) api.Rel { return api.Rel{Arity: arity, Tuples: tuples} }

func unary(lower, upper []int) api.Bound {
	return api.Bound{Lower: rel(1, lower...), Upper: rel(1, upper...)}
}

var sorted = api.Spec{
	Sorts:  []api.Sort{{Name: "A"}, {Name: "B"}},
	Fields: []api.Field{{Name: "f", Sorts: []int{0}, Var: true}, {Name: "g", Sorts: []int{1, 0}}},
}

var scope = api.Scope{Atoms: []int{2, 1}, Steps: 2}

// P9.1, P9.2: default bounds.
func TestDefault(t *testing.T) {
	want := []api.Bound{unary(nil, []int{0, 1}), {Lower: rel(2), Upper: rel(2, 6, 7)}}
	if got := Default(sorted, scope); !Equal(got, want) || !Valid(sorted, scope, got) {
		t.Error(got)
	}
	if got := Default(api.Spec{}, api.Scope{Steps: 1}); len(got) != 0 || !Valid(api.Spec{}, api.Scope{Steps: 1}, nil) {
		t.Error(got)
	}
}

// P9.1: Valid rejects each way of being malformed.
func TestValid(t *testing.T) {
	good := func() []api.Bound {
		return []api.Bound{unary([]int{1}, []int{0, 1}), {Lower: rel(2), Upper: rel(2, 7)}}
	}
	if !Valid(sorted, scope, good()) {
		t.Fatal("the bounds are not valid")
	}
	for i, change := range []func(b []api.Bound) []api.Bound{
		func(b []api.Bound) []api.Bound { return b[:1] },
		func(b []api.Bound) []api.Bound { return append(b, b[0]) },
		func(b []api.Bound) []api.Bound { b[0].Lower.Arity = 2; return b },
		func(b []api.Bound) []api.Bound { b[0].Upper.Arity = 2; return b },
		func(b []api.Bound) []api.Bound { b[1].Lower.Arity = 1; return b },
		func(b []api.Bound) []api.Bound { b[1] = b[0]; return b },
		func(b []api.Bound) []api.Bound { b[0].Upper.Tuples = []int{0}; return b },
		func(b []api.Bound) []api.Bound { b[0].Upper.Tuples = []int{0, 1, 2}; return b },
		func(b []api.Bound) []api.Bound { b[1].Upper.Tuples = []int{1, 7}; return b },
		func(b []api.Bound) []api.Bound { b[0].Upper.Tuples = []int{1, 0}; return b },
		func(b []api.Bound) []api.Bound { b[0].Upper.Tuples = []int{0, 1, 3}; return b },
		func(b []api.Bound) []api.Bound { b[0].Lower.Tuples = []int{-1}; return b },
		func(b []api.Bound) []api.Bound { b[0].Lower.Tuples = []int{1, 1}; return b },
	} {
		if Valid(sorted, scope, change(good())) {
			t.Errorf("change %d is valid", i)
		}
	}
}

// P9.1: models within bounds and outside.
func TestContains(t *testing.T) {
	b := []api.Bound{unary([]int{1}, []int{0, 1}), {Lower: rel(2), Upper: rel(2, 7)}}
	for _, x := range []struct {
		states [][]api.Rel
		want   bool
	}{
		{nil, true}, {[][]api.Rel{{rel(1, 1), rel(2)}}, true}, {[][]api.Rel{{rel(1, 0, 1), rel(2, 7)}, {rel(1, 1), rel(2)}}, true},
		{[][]api.Rel{{rel(1, 1), rel(2)}, {rel(1), rel(2)}}, false}, {[][]api.Rel{{rel(1, 1), rel(2, 6)}}, false}, {[][]api.Rel{{rel(1, 1), rel(1)}}, false},
		{[][]api.Rel{{rel(1, 1)}}, false}, {[][]api.Rel{{rel(1, 1), rel(2), rel(2)}}, false}, {[][]api.Rel{{rel(2, 1), rel(2)}}, false}, {[][]api.Rel{{rel(1, 0), rel(2)}}, false}, {[][]api.Rel{{}}, false},
	} {
		if got := Contains(b, api.Model{States: x.states}); got != x.want {
			t.Errorf("Contains(%v) = %t", x.states, got)
		}
	}
	if !Contains(nil, api.Model{States: [][]api.Rel{{}}}) {
		t.Error("no fields")
	}
	if Contains([]api.Bound{{Lower: rel(2), Upper: rel(1)}}, api.Model{States: [][]api.Rel{{rel(1)}}}) {
		t.Error("bounds of different arities")
	}
}

// P9.1: free tuples.
func TestFree(t *testing.T) {
	got := Free([]api.Bound{unary([]int{1}, []int{0, 1, 2}), unary([]int{3}, []int{3}), {Lower: rel(2, 4), Upper: rel(2, 1, 4, 5)}})
	if !reflect.DeepEqual(got, [][2]int{{0, 0}, {0, 2}, {2, 1}, {2, 5}}) || len(Free(nil)) != 0 {
		t.Error(got)
	}
}

// P9.1: the meet and its errors.
func TestMeet(t *testing.T) {
	one := func(lower, upper []int) []api.Bound { return []api.Bound{unary(lower, upper)} }
	got, e := Meet(one([]int{1}, []int{0, 1, 2}), one([]int{2}, []int{1, 2, 3}))
	if e != api.OK || !Equal(got, one([]int{1, 2}, []int{1, 2})) {
		t.Error(got, e)
	}
	if got, e := Meet(nil, nil); len(got) != 0 || e != api.OK {
		t.Error(got, e)
	}
	for i, x := range []struct {
		a, b []api.Bound
		e    api.Errno
	}{
		{one([]int{1}, []int{1}), one(nil, []int{2}), api.ErrConflict}, {one(nil, nil), nil, api.ErrArgument}, {one([]int{1}, nil), []api.Bound{{Lower: rel(2), Upper: rel(2)}}, api.ErrArgument},
		{[]api.Bound{{Lower: rel(1), Upper: rel(2)}}, []api.Bound{{Lower: rel(1), Upper: rel(2)}}, api.ErrArgument},
		{append(one([]int{1}, []int{1}), api.Bound{Lower: rel(1)}), append(one(nil, nil), api.Bound{Lower: rel(1)}), api.ErrArgument},
	} {
		if got, e := Meet(x.a, x.b); got != nil || e != x.e {
			t.Errorf("case %d: %v, %d", i, got, e)
		}
	}
	if Equal(one(nil, nil), nil) || Equal(one(nil, []int{1}), one([]int{1}, []int{1})) || Equal(one(nil, []int{1}), one(nil, nil)) || !Equal(one(nil, nil), one([]int{}, []int{})) {
		t.Error("Equal")
	}
}

// P9.2, P9.3, P9.4 on sampled bounds and models.
func TestRandom(t *testing.T) {
	s := sample.New(1)
	conflicts := 0
	for range 1500 {
		sp := s.Spec(sample.Small)
		sc := s.Scope(sp, 2, 3)
		a, b := s.Bounds(sp, sc, 20), s.Bounds(sp, sc, 20)
		m := s.Model(sp, sc, a)
		other := s.Model(sp, sc, Default(sp, sc))
		if !model.Valid(sp, m) || !Valid(sp, sc, a) || !Contains(a, m) || !Contains(Default(sp, sc), m) || !Contains(Default(sp, sc), other) {
			t.Fatalf("%v, %v", a, m)
		}
		if same, e := Meet(a, Default(sp, sc)); e != api.OK || !Equal(same, a) {
			t.Fatalf("Default is not neutral: %v", a)
		}
		both, e := Meet(a, b)
		for _, x := range []api.Model{m, other, s.Model(sp, sc, b)} {
			in := Contains(a, x) && Contains(b, x)
			if e == api.OK && Contains(both, x) != in || e != api.OK && in {
				t.Fatalf("%v, %v: %v, %d", a, b, x, e)
			}
		}
		if e != api.OK {
			conflicts++
		}
		checkFree(t, s, sc, a)
	}
	if conflicts == 0 {
		t.Error("no conflicts")
	}
}

// checkFree checks that choices of free tuples are exactly the relations within the bounds.
func checkFree(t *testing.T, s *sample.Source, sc api.Scope, b []api.Bound) {
	t.Helper()
	chosen := sample.Subset(s, Free(b), 50)
	var state []api.Rel
	for _, x := range b {
		state = append(state, relation.Union(x.Lower, rel(x.Lower.Arity)))
	}
	for _, pair := range chosen {
		state[pair[0]] = relation.Union(state[pair[0]], rel(state[pair[0]].Arity, pair[1]))
	}
	if !Contains(b, api.Model{States: [][]api.Rel{state}}) {
		t.Fatalf("%v is not within %v", state, b)
	}
	for i, x := range b {
		var again []int
		for _, pair := range chosen {
			if pair[0] == i {
				again = append(again, pair[1])
			}
		}
		if !relation.Equal(relation.Diff(state[i], x.Lower), rel(x.Lower.Arity, again...)) || !relation.Valid(universe.Atoms(sc), state[i]) {
			t.Fatalf("%v is not determined by %v", state[i], chosen)
		}
	}
}

// Results share no memory with arguments.
func TestMemory(t *testing.T) {
	a := []api.Bound{unary([]int{1}, []int{1, 2})}
	got, _ := Meet(a, a)
	got[0].Lower.Tuples[0], got[0].Upper.Tuples[0] = 7, 7
	if !Equal(a, []api.Bound{unary([]int{1}, []int{1, 2})}) {
		t.Error("Meet shares memory")
	}
}
