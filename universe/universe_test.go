package universe

import (
	"reflect"
	"testing"

	"armature/api"
)

// spec returns a specification with as many sorts as names.
func spec(names ...string) api.Spec {
	var sp api.Spec
	for _, name := range names {
		sp.Sorts = append(sp.Sorts, api.Sort{Name: name})
	}
	return sp
}

func scope(atoms ...int) api.Scope { return api.Scope{Atoms: atoms, Steps: 1} }

// P5.1: valid and invalid scopes.
func TestValid(t *testing.T) {
	for _, x := range []struct {
		sorts int
		sc    api.Scope
		want  bool
	}{
		{0, scope(), true}, {1, scope(1), true}, {1, scope(5), true}, {4, scope(5, 5, 1, 1), true}, {3, scope(5, 5, 2), true}, {2, api.Scope{Atoms: []int{2, 3}, Steps: 4}, true},
		{1, scope(), false}, {1, scope(1, 1), false}, {1, scope(0), false}, {1, scope(6), false}, {2, scope(1, -1), false}, {3, scope(5, 5, 3), false}, {5, scope(1, 1, 1, 1, 1), false},
		{1, api.Scope{Atoms: []int{1}}, false}, {1, api.Scope{Atoms: []int{1}, Steps: 5}, false}, {1, api.Scope{Atoms: []int{1}, Steps: -1}, false}, {0, api.Scope{}, false},
	} {
		if got := Valid(api.Spec{Sorts: make([]api.Sort, x.sorts)}, x.sc); got != x.want {
			t.Errorf("Valid(%d sorts, %v) = %t", x.sorts, x.sc, got)
		}
	}
}

// P5.1, P5.2: atoms and their sorts.
func TestAtoms(t *testing.T) {
	sc := scope(2, 3, 1)
	if Atoms(sc) != 6 || Atoms(scope()) != 0 {
		t.Error("Atoms")
	}
	for sort, want := range []int{0, 2, 5, 6} {
		if got := First(sc, sort); got != want {
			t.Errorf("First(%d) = %d", sort, got)
		}
	}
	for atom, want := range map[int]int{-1: -1, 0: 0, 1: 0, 2: 1, 3: 1, 4: 1, 5: 2, 6: -1, 1 << 60: -1} {
		if got := SortOf(sc, atom); got != want {
			t.Errorf("SortOf(%d) = %d", atom, got)
		}
	}
	for atom, want := range map[int]string{-1: "", 0: "A$0", 1: "A$1", 2: "Bee$0", 4: "Bee$2", 5: "C_$0", 6: ""} {
		if got := Name(spec("A", "Bee", "C_"), sc, atom); got != want {
			t.Errorf("Name(%d) = %q", atom, got)
		}
	}
}

// P5.1: ranks and tuples, in range and out of it.
func TestRanks(t *testing.T) {
	sc := scope(2, 3)
	for _, x := range []struct {
		tuple []int
		want  int
	}{
		{nil, 0}, {[]int{4}, 4}, {[]int{1, 4}, 9}, {[]int{4, 4, 4}, 124}, {[]int{0, 1, 2}, 7}, {[]int{5}, -1}, {[]int{-1}, -1}, {[]int{0, 5}, -1}, {[]int{0, 0, 0, 0}, -1},
	} {
		if got := Rank(sc, x.tuple); got != x.want {
			t.Errorf("Rank(%v) = %d", x.tuple, got)
		}
	}
	for _, x := range []struct {
		arity, rank int
		want        []int
	}{
		{0, 0, nil}, {0, 1, nil}, {1, 4, []int{4}}, {1, 5, nil}, {1, -1, nil}, {2, 9, []int{1, 4}}, {2, 25, nil}, {3, 124, []int{4, 4, 4}}, {3, 125, nil}, {4, 0, nil}, {-1, 0, nil}, {2, 0, []int{0, 0}},
		{2, -1, nil}, {3, 1 << 62, nil}, {2, -1 << 63, nil},
	} {
		if got := Tuple(sc, x.arity, x.rank); len(got) != len(x.want) || len(got) > 0 && !reflect.DeepEqual(got, x.want) {
			t.Errorf("Tuple(%d, %d) = %v", x.arity, x.rank, got)
		}
	}
	if len(Tuple(scope(), 1, 0)) != 0 || len(Tuple(scope(), 0, 0)) != 0 || Rank(scope(), nil) != 0 || Rank(scope(), []int{0}) != -1 {
		t.Error("without atoms")
	}
}

// P5.3, P5.4: Rank and Tuple are inverse, ranks are lexicographic, and Full is exact, for many scopes.
func TestAllTuples(t *testing.T) {
	for _, sc := range []api.Scope{scope(1), scope(3), scope(2, 3), scope(1, 2, 1), scope(5, 5, 2), scope(1, 1, 1, 1)} {
		n := Atoms(sc)
		for arity, count := 1, n; arity <= 3; arity, count = arity+1, count*n {
			var before []int
			for rank := range count {
				tuple := Tuple(sc, arity, rank)
				if len(tuple) != arity || Rank(sc, tuple) != rank {
					t.Fatalf("Tuple(%v, %d, %d) = %v", sc, arity, rank, tuple)
				}
				if rank > 0 && !lessTuple(before, tuple) {
					t.Fatalf("%v comes before %v", before, tuple)
				}
				before = tuple
			}
			checkFull(t, sc, arity, count)
		}
	}
}

func lessTuple(a, b []int) bool {
	for i := range a {
		if a[i] != b[i] {
			return a[i] < b[i]
		}
	}
	return false
}

// checkFull compares Full with the definition for all columns of an arity.
func checkFull(t *testing.T, sc api.Scope, arity, count int) {
	t.Helper()
	columns := make([]int, arity)
	for choice := range pow(len(sc.Atoms), arity) {
		for i := range columns {
			columns[i] = choice / pow(len(sc.Atoms), i) % len(sc.Atoms)
		}
		var want []int
		for rank := range count {
			fits := true
			for i, atom := range Tuple(sc, arity, rank) {
				fits = fits && SortOf(sc, atom) == columns[i]
			}
			if fits {
				want = append(want, rank)
			}
		}
		if got := Full(sc, columns); !reflect.DeepEqual(got, api.Rel{Arity: arity, Tuples: want}) {
			t.Fatalf("Full(%v, %v) = %v, not %v", sc, columns, got, want)
		}
	}
}

func pow(base, exponent int) int {
	value := 1
	for range exponent {
		value *= base
	}
	return value
}

// P5.1: columns that are out of range.
func TestFullErrors(t *testing.T) {
	for _, sorts := range [][]int{nil, {2}, {-1}, {0, 2}, {0, 0, 0, 0}} {
		if got := Full(scope(2, 3), sorts); !reflect.DeepEqual(got, api.Rel{}) {
			t.Errorf("Full(%v) = %v", sorts, got)
		}
	}
}
