package relation

import (
	"reflect"
	"slices"
	"testing"

	"armature/api"
	"armature/sample"
)

func rel(arity int, tuples ...int) api.Rel { return api.Rel{Arity: arity, Tuples: tuples} }

// random returns a relation over n atoms.
func random(s *sample.Source, n, arity int) api.Rel {
	r := rel(arity)
	percent := sample.Pick(s, []int{5, 20, 50, 100})
	for rank := range power(n, arity) {
		if s.Chance(percent) {
			r.Tuples = append(r.Tuples, rank)
		}
	}
	return r
}

// tuples lists the tuples of a relation as slices of atoms.
func tuples(n int, r api.Rel) [][]int {
	var out [][]int
	for _, rank := range r.Tuples {
		t := make([]int, r.Arity)
		for i := r.Arity - 1; i >= 0; i-- {
			t[i] = rank % n
			rank /= n
		}
		out = append(out, t)
	}
	return out
}

// of returns the relation with the given tuples.
func of(n, arity int, l [][]int) api.Rel {
	r := rel(arity)
	for _, t := range l {
		rank := 0
		for _, atom := range t {
			rank = rank*n + atom
		}
		r.Tuples = append(r.Tuples, rank)
	}
	slices.Sort(r.Tuples)
	r.Tuples = slices.Compact(r.Tuples)
	return r
}

func must(t *testing.T, r api.Rel, e api.Errno) api.Rel {
	t.Helper()
	if e != api.OK {
		t.Fatal(e)
	}
	return r
}

// P6.1: validity and equality of any relations.
func TestValid(t *testing.T) {
	for _, x := range []struct {
		n    int
		r    api.Rel
		want bool
	}{
		{3, rel(1), true}, {3, rel(1, 0, 2), true}, {3, rel(2, 8), true}, {3, rel(3, 0, 26), true}, {12, rel(3, 1727), true}, {0, rel(2), true}, {1, rel(3, 0), true},
		{3, rel(1, 3), false}, {3, rel(2, 9), false}, {3, rel(3, 27), false}, {3, rel(1, -1), false}, {3, rel(1, 1, 1), false}, {3, rel(1, 2, 1), false}, {3, rel(0), false}, {3, rel(4), false},
		{0, rel(1, 0), false}, {13, rel(1), false}, {-1, rel(1), false}, {-1, rel(2, 0), false},
	} {
		if got := Valid(x.n, x.r); got != x.want {
			t.Errorf("Valid(%d, %v) = %t", x.n, x.r, got)
		}
	}
	if !Equal(rel(7, 3, 1), rel(7, 3, 1)) || Equal(rel(1, 1), rel(2, 1)) || Equal(rel(1, 1), rel(1, 1, 2)) || Equal(rel(1, 1), rel(1, 2)) || !Equal(rel(0), api.Rel{Tuples: []int{}}) {
		t.Error("Equal")
	}
}

// P6.1: the examples of the chapter, and errors.
func TestExamples(t *testing.T) {
	product, e := Product(3, rel(1, 1), rel(1, 0, 2))
	join, f := Join(3, rel(2, 1, 5), rel(2, 1, 5))
	if !Equal(product, rel(2, 3, 5)) || !Equal(join, rel(2, 2)) || e != api.OK || f != api.OK {
		t.Error(product, join)
	}
	if got := Closure(3, rel(2, 1, 5)); !Equal(got, rel(2, 1, 2, 5)) {
		t.Error(got)
	}
	if got := Override(3, rel(2, 0, 4), rel(2, 2)); !Equal(got, rel(2, 2, 4)) {
		t.Error(got)
	}
	for a := 1; a <= 3; a++ {
		for b := 1; b <= 3; b++ {
			r, e := Product(2, rel(a, 0), rel(b, 0))
			if (e == api.OK) != (a+b <= 3) || e != api.OK && (e != api.ErrArity || !reflect.DeepEqual(r, api.Rel{})) {
				t.Errorf("Product of arities %d and %d: %v, %d", a, b, r, e)
			}
			r, e = Join(2, rel(a, 0), rel(b, 0))
			if (e == api.OK) != (a+b-2 >= 1 && a+b-2 <= 3) || e != api.OK && (e != api.ErrArity || !reflect.DeepEqual(r, api.Rel{})) {
				t.Errorf("Join of arities %d and %d: %v, %d", a, b, r, e)
			}
		}
	}
	if !Equal(Iden(0), rel(2)) || !Equal(Iden(3), rel(2, 0, 4, 8)) || len(Iden(12).Tuples) != 12 {
		t.Error("Iden")
	}
	if r, e := Join(0, rel(2), rel(2)); e != api.OK || !Equal(r, rel(2)) || !Equal(Closure(0, rel(2)), rel(2)) || !Equal(Transpose(0, rel(2)), rel(2)) || !Equal(Override(0, rel(3), rel(3)), rel(3)) {
		t.Error("without atoms")
	}
}

// P6.1, P6.2: every operation against its definition on tuples.
func TestDefinitions(t *testing.T) {
	s := sample.New(1)
	for range 600 {
		n := s.Between(1, 4)
		arity := s.Between(1, 3)
		a, b := random(s, n, arity), random(s, n, arity)
		var both, first []int
		for _, x := range a.Tuples {
			if slices.Contains(b.Tuples, x) {
				both = append(both, x)
			} else {
				first = append(first, x)
			}
		}
		sum := slices.Compact(slices.Sorted(slices.Values(append(slices.Clone(a.Tuples), b.Tuples...))))
		if !Equal(Union(a, b), rel(arity, sum...)) || !Equal(Inter(a, b), rel(arity, both...)) || !Equal(Diff(a, b), rel(arity, first...)) || In(a, b) != (len(first) == 0) {
			t.Fatalf("%v, %v", a, b)
		}
		var kept [][]int
		for _, x := range tuples(n, a) {
			if !slices.ContainsFunc(tuples(n, b), func(y []int) bool { return y[0] == x[0] }) {
				kept = append(kept, x)
			}
		}
		if !Equal(Override(n, a, b), of(n, arity, append(kept, tuples(n, b)...))) {
			t.Fatalf("Override(%d, %v, %v) = %v", n, a, b, Override(n, a, b))
		}
		checkJoin(t, s, n, a)
		checkClosure(t, n, random(s, n, 2))
	}
}

// checkJoin compares Join and Product with their definitions.
func checkJoin(t *testing.T, s *sample.Source, n int, a api.Rel) {
	t.Helper()
	b := random(s, n, s.Between(1, 3))
	var joins, products [][]int
	for _, x := range tuples(n, a) {
		for _, y := range tuples(n, b) {
			products = append(products, append(slices.Clone(x), y...))
			if x[len(x)-1] == y[0] {
				joins = append(joins, append(slices.Clone(x[:len(x)-1]), y[1:]...))
			}
		}
	}
	if r, e := Join(n, a, b); e == api.OK && (!Equal(r, of(n, a.Arity+b.Arity-2, joins)) || !Valid(n, r)) {
		t.Fatalf("Join(%d, %v, %v) = %v", n, a, b, r)
	}
	if r, e := Product(n, a, b); e == api.OK && (!Equal(r, of(n, a.Arity+b.Arity, products)) || !Valid(n, r)) {
		t.Fatalf("Product(%d, %v, %v) = %v", n, a, b, r)
	}
}

// checkClosure checks that a closure is the union of all powers, and P6.6.
func checkClosure(t *testing.T, n int, a api.Rel) {
	t.Helper()
	want, path := a, a
	for range n {
		path, _ = Join(n, path, a)
		want = Union(want, path)
	}
	got := Closure(n, a)
	step, _ := Join(n, got, got)
	if !Equal(got, want) || !In(a, got) || !In(step, got) || !Equal(Closure(n, got), got) || !Valid(n, got) {
		t.Fatalf("Closure(%d, %v) = %v", n, a, got)
	}
	if !Equal(Closure(n, Transpose(n, a)), Transpose(n, got)) {
		t.Fatalf("Closure(%d, %v) and transposition", n, a)
	}
}

// P6.3 on sampled relations.
func TestLattice(t *testing.T) {
	s := sample.New(2)
	for range 500 {
		n, arity := s.Between(1, 3), s.Between(1, 3)
		a, b, c, all := random(s, n, arity), random(s, n, arity), random(s, n, arity), rel(arity)
		for rank := range power(n, arity) {
			all.Tuples = append(all.Tuples, rank)
		}
		not := func(x api.Rel) api.Rel { return Diff(all, x) }
		for i, pair := range [][2]api.Rel{
			{Union(a, b), Union(b, a)}, {Inter(a, b), Inter(b, a)}, {Union(a, Union(b, c)), Union(Union(a, b), c)}, {Inter(a, Inter(b, c)), Inter(Inter(a, b), c)},
			{Inter(a, Union(b, c)), Union(Inter(a, b), Inter(a, c))}, {Union(a, Inter(b, c)), Inter(Union(a, b), Union(a, c))}, {Union(a, Inter(a, b)), a}, {Inter(a, Union(a, b)), a},
			{not(Union(a, b)), Inter(not(a), not(b))}, {not(Inter(a, b)), Union(not(a), not(b))}, {Diff(a, b), Inter(a, not(b))},
		} {
			if !Equal(pair[0], pair[1]) || !Valid(n, pair[0]) {
				t.Fatalf("law %d: %v, %v, %v", i, a, b, c)
			}
		}
		if In(a, b) != Equal(Union(a, b), b) || !In(a, a) || In(a, b) && In(b, a) != Equal(a, b) || !In(Inter(a, b), a) || !In(a, Union(a, b)) {
			t.Fatalf("In: %v, %v", a, b)
		}
	}
}

// P6.4, P6.5, P6.7 on sampled relations.
func TestLaws(t *testing.T) {
	s := sample.New(3)
	for range 500 {
		n := s.Between(1, 4)
		a, b, c := random(s, n, 2), random(s, n, 2), random(s, n, 2)
		u := random(s, n, 1)
		join := func(x, y api.Rel) api.Rel { r, e := Join(n, x, y); return must(t, r, e) }
		third, _ := Product(n, a, u)
		laws := [][2]api.Rel{
			{join(join(a, b), c), join(a, join(b, c))}, {join(join(u, a), b), join(u, join(a, b))}, {join(join(third, a), b), join(third, join(a, b))},
			{join(a, Union(b, c)), Union(join(a, b), join(a, c))}, {join(Union(a, b), c), Union(join(a, c), join(b, c))},
			{join(a, Iden(n)), a}, {join(Iden(n), a), a}, {join(u, Iden(n)), u},
			{Transpose(n, Transpose(n, a)), a}, {Transpose(n, Union(a, b)), Union(Transpose(n, a), Transpose(n, b))}, {Transpose(n, join(a, b)), join(Transpose(n, b), Transpose(n, a))},
			{Override(n, a, rel(2)), a}, {Override(n, rel(2), a), a},
		}
		if len(u.Tuples) > 0 {
			laws = append(laws, [2]api.Rel{join(third, u), a})
		}
		for i, pair := range laws {
			if !Equal(pair[0], pair[1]) {
				t.Fatalf("law %d: %v, %v, %v, %v", i, a, b, c, u)
			}
		}
		if In(a, b) != In(Transpose(n, a), Transpose(n, b)) || !In(Closure(n, a), Closure(n, Union(a, b))) {
			t.Fatalf("inclusion: %v, %v", a, b)
		}
		over := Override(n, a, b)
		for _, x := range tuples(n, over) {
			inB := slices.ContainsFunc(tuples(n, b), func(y []int) bool { return y[0] == x[0] })
			if inB && !slices.Contains(b.Tuples, x[0]*n+x[1]) || !inB && !slices.Contains(a.Tuples, x[0]*n+x[1]) {
				t.Fatalf("Override(%v, %v) = %v", a, b, over)
			}
		}
	}
}

// Results share no memory with arguments.
func TestMemory(t *testing.T) {
	a, b := rel(2, 0, 3), rel(2)
	for i, r := range []api.Rel{Union(a, b), Union(b, a), Inter(a, a), Diff(a, b), Override(2, a, b), Closure(2, a), Transpose(2, a)} {
		r.Tuples[0] = 9
		if a.Tuples[0] != 0 {
			t.Fatalf("result %d shares memory", i)
		}
	}
}
