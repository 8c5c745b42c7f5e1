package refine

import (
	"reflect"
	"slices"
	"testing"

	"armature/api"
	"armature/permute"
	"armature/relation"
	"armature/sample"
)

func rel(arity int, tuples ...int) api.Rel { return api.Rel{Arity: arity, Tuples: tuples} }

// one returns a specification with sorts of which some are ordered.
func one(ordered ...bool) api.Spec {
	var sp api.Spec
	for _, o := range ordered {
		sp.Sorts = append(sp.Sorts, api.Sort{Name: "A", Ordered: o})
	}
	return sp
}

func scope(atoms ...int) api.Scope { return api.Scope{Atoms: atoms, Steps: 1} }

// between returns the bounds of a field.
func between(arity int, lower, upper []int) api.Bound {
	return api.Bound{Lower: rel(arity, lower...), Upper: rel(arity, upper...)}
}

// P12.1: classes.
func TestClasses(t *testing.T) {
	for _, x := range []struct {
		sp   api.Spec
		sc   api.Scope
		b    []api.Bound
		want [][]int
	}{
		{one(false), scope(3), []api.Bound{between(1, nil, []int{0, 1, 2})}, [][]int{{0, 1, 2}}},
		{one(false), scope(3), []api.Bound{between(1, []int{1}, []int{0, 1, 2})}, [][]int{{0, 2}, {1}}},
		{one(true), scope(3), []api.Bound{between(1, nil, []int{0, 1, 2})}, [][]int{{0}, {1}, {2}}},
		{one(false, false), scope(2, 1), nil, [][]int{{0, 1}, {2}}},
		{one(false, true), scope(2, 2), nil, [][]int{{0, 1}, {2}, {3}}},
		{one(false), scope(4), []api.Bound{between(2, nil, []int{1, 6, 11, 12})}, [][]int{{0, 1, 2, 3}}},                  // a cycle of four
		{one(false), scope(4), []api.Bound{between(2, nil, []int{1, 6, 11})}, [][]int{{0}, {1}, {2}, {3}}},                // a path: found in two rounds
		{one(false), scope(4), []api.Bound{between(2, nil, []int{1, 11})}, [][]int{{0, 2}, {1, 3}}},                       // two arrows
		{one(false), scope(3), []api.Bound{between(2, nil, []int{0, 1})}, [][]int{{0}, {1}, {2}}},                         // a loop and an arrow
		{one(false), scope(2), []api.Bound{between(2, nil, []int{0, 3})}, [][]int{{0, 1}}},                                // two loops
		{one(false), scope(3), []api.Bound{between(1, nil, []int{0}), between(1, nil, []int{1})}, [][]int{{0}, {1}, {2}}}, // two fields
		{one(false), scope(3), []api.Bound{between(3, nil, []int{1, 2})}, [][]int{{0}, {1, 2}}},                           // 0 0 1 and 0 0 2
		{one(), scope(), nil, nil},
	} {
		if got := Classes(x.sp, x.sc, x.b); !reflect.DeepEqual(got, x.want) {
			t.Errorf("Classes(%v, %v) = %v", x.sc, x.b, got)
		}
	}
}

// P12.1: groups and exchanges.
func TestGroup(t *testing.T) {
	cycle := []api.Bound{between(2, nil, []int{1, 6, 11, 12})}
	if got := Group(one(false), scope(4), cycle); !reflect.DeepEqual(got, [][]int{{0, 1, 2, 3}, {1, 2, 3, 0}, {2, 3, 0, 1}, {3, 0, 1, 2}}) {
		t.Error(got)
	}
	if got := Swaps(one(false), scope(4), cycle); len(got) != 0 {
		t.Error(got)
	}
	free := []api.Bound{between(1, []int{1}, []int{0, 1, 2, 3})}
	if got := Swaps(one(false, false), scope(3, 2), free); !reflect.DeepEqual(got, [][2]int{{0, 2}}) {
		t.Error(got)
	}
	if got := Group(one(false, true), scope(3, 2), nil); len(got) != 6 {
		t.Error(got)
	}
	if got := Swaps(one(false, true), scope(2, 2), nil); !reflect.DeepEqual(got, [][2]int{{0, 1}}) {
		t.Error(got)
	}
	if got := Group(one(), scope(), nil); len(got) != 1 || len(got[0]) != 0 || Swaps(one(), scope(), nil) != nil {
		t.Error(got)
	}
	if got := Group(one(false, false, false), scope(5, 5, 2), nil); len(got) != 28800 {
		t.Errorf("%d symmetries", len(got))
	}
}

// P12.1: Symmetric for any slice; ordered sorts do not matter.
func TestSymmetric(t *testing.T) {
	b := []api.Bound{between(1, []int{1}, []int{0, 1, 2}), between(2, nil, []int{0, 4, 8})}
	for _, x := range []struct {
		p    []int
		want bool
	}{{[]int{0, 1, 2}, true}, {[]int{2, 1, 0}, true}, {[]int{1, 0, 2}, false}, {[]int{0, 1}, false}, {nil, false}, {[]int{0, 0, 2}, false}, {[]int{0, 1, 3}, false}, {[]int{0, 1, -1}, false}} {
		if got := Symmetric(scope(3), b, x.p); got != x.want {
			t.Errorf("Symmetric(%v) = %t", x.p, got)
		}
	}
	if Symmetric(scope(3), []api.Bound{between(2, nil, []int{1, 3})}, []int{0, 2, 1}) || !Symmetric(scope(3), []api.Bound{between(2, nil, []int{1, 3})}, []int{1, 0, 2}) {
		t.Error("upper bounds")
	}
}

// find returns the index of the class of an atom.
func find(classes [][]int, atom int) int {
	return slices.IndexFunc(classes, func(c []int) bool { return slices.Contains(c, atom) })
}

// refines reports whether each class of a lies in a class of b.
func refines(a, b [][]int) bool {
	for _, c := range a {
		for _, x := range c {
			if find(b, x) != find(b, c[0]) {
				return false
			}
		}
	}
	return true
}

// image returns the images of bounds.
func image(sc api.Scope, b []api.Bound, p []int) []api.Bound {
	var out []api.Bound
	for _, x := range b {
		out = append(out, api.Bound{Lower: permute.Rel(sc, p, x.Lower), Upper: permute.Rel(sc, p, x.Upper)})
	}
	return out
}

// symmetricBounds returns bounds that have symmetries more often than sampled ones: they are unions of images under a permutation.
func symmetricBounds(s *sample.Source, sp api.Spec, sc api.Scope) []api.Bound {
	b := s.Bounds(sp, sc, 12)
	p := sample.Pick(s, permute.All(sc))
	for range s.Below(7) {
		for i, x := range image(sc, b, p) {
			b[i] = api.Bound{Lower: relation.Union(b[i].Lower, x.Lower), Upper: relation.Union(b[i].Upper, x.Upper)}
		}
	}
	return b
}

// P12.2 to P12.7 on sampled bounds.
func TestRandom(t *testing.T) {
	s := sample.New(1)
	large := 0
	for range 600 {
		sp := s.Spec(sample.Size{Sorts: 2, Fields: 2, Arity: 3})
		sc := s.Scope(sp, 3, 1)
		b := symmetricBounds(s, sp, sc)
		classes, group := Classes(sp, sc, b), Group(sp, sc, b)
		if len(group) > 2 {
			large++
		}
		var want [][]int
		for _, p := range permute.All(sc) {
			if Symmetric(sc, b, p) && fixes(sp, sc, p) {
				want = append(want, p)
			}
		}
		if !reflect.DeepEqual(group, want) {
			t.Fatalf("Group(%v, %v) = %v, not %v", sc, b, group, want)
		}
		checkClasses(t, sp, sc, b, classes, group)
		checkSwaps(t, sp, sc, b, classes)
		p := sample.Pick(s, permute.All(sc))
		if fixes(sp, sc, p) {
			checkInvariance(t, classes, Classes(sp, sc, image(sc, b, p)), p)
		}
		more := append(b[:len(b):len(b)], symmetricBounds(s, sp, sc)...)
		if !refines(Classes(sp, sc, more), classes) {
			t.Fatalf("%v: an additional bound joins classes", more)
		}
		for _, p := range Group(sp, sc, more) {
			if !slices.ContainsFunc(group, func(q []int) bool { return slices.Equal(p, q) }) {
				t.Fatalf("%v: an additional bound adds a symmetry", more)
			}
		}
	}
	if large < 50 {
		t.Errorf("only %d large groups", large)
	}
}

// fixes reports whether a permutation leaves the atoms of ordered sorts in place.
func fixes(sp api.Spec, sc api.Scope, p []int) bool {
	for x, y := range p {
		if ordered(sp, sc, x) && x != y {
			return false
		}
	}
	return true
}

// checkClasses checks that classes are a stable partition, invariant under the group, and that the group is one.
func checkClasses(t *testing.T, sp api.Spec, sc api.Scope, b []api.Bound, classes, group [][]int) {
	t.Helper()
	class := make([]int, len(group[0]))
	total := 0
	for i, c := range classes {
		total += len(c)
		for _, atom := range c {
			class[atom] = i
			if !slices.IsSorted(c) || i > 0 && classes[i-1][0] > c[0] {
				t.Fatalf("%v is not in order", classes)
			}
		}
	}
	all := signatures(sc, b, class)
	for x := range class {
		for y := range x {
			if class[x] == class[y] && all[x] != all[y] {
				t.Fatalf("%v is not stable", classes)
			}
		}
	}
	if total != len(class) {
		t.Fatalf("%v is no partition", classes)
	}
	contains := func(p []int) bool {
		return slices.ContainsFunc(group, func(q []int) bool { return slices.Equal(p, q) })
	}
	for _, p := range group {
		for x, y := range p {
			if class[x] != class[y] {
				t.Fatalf("%v moves %d out of its class %v", p, x, classes)
			}
		}
		if !contains(permute.Inverse(p)) || !contains(permute.Compose(p, group[len(group)-1])) || !slices.Equal(group[0], permute.All(sc)[0]) {
			t.Fatalf("%v is no group", group)
		}
	}
}

// checkSwaps checks that exchanges are an equivalence relation that refines the classes.
func checkSwaps(t *testing.T, sp api.Spec, sc api.Scope, b []api.Bound, classes [][]int) {
	t.Helper()
	swaps := Swaps(sp, sc, b)
	same := func(x, y int) bool {
		return x == y || slices.Contains(swaps, [2]int{min(x, y), max(x, y)})
	}
	n := len(permute.All(sc)[0])
	for x := range n {
		for y := range n {
			for z := range n {
				if same(x, y) && same(y, z) && !same(x, z) || same(x, y) && find(classes, x) != find(classes, y) {
					t.Fatalf("%v: %v", classes, swaps)
				}
			}
		}
	}
}

// checkInvariance checks that the classes of the image are the images of the classes.
func checkInvariance(t *testing.T, classes, moved [][]int, p []int) {
	t.Helper()
	for x := range p {
		for y := range p {
			if (find(classes, x) == find(classes, y)) != (find(moved, p[x]) == find(moved, p[y])) {
				t.Fatalf("%v and %v under %v", classes, moved, p)
			}
		}
	}
}
