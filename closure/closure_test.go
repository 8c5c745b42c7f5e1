package closure

import (
	"reflect"
	"slices"
	"testing"

	"armature/api"
	"armature/circuit"
	"armature/matrix"
	"armature/relation"
	"armature/sample"
)

func rel(arity int, tuples ...int) api.Rel { return api.Rel{Arity: arity, Tuples: tuples} }

func equal(a, b api.Matrix) bool { return a.Arity == b.Arity && slices.Equal(a.Cells, b.Cells) }

// P15.1, P15.4: constant matrices.
func TestConstants(t *testing.T) {
	c := circuit.New()
	for _, x := range []struct {
		n       int
		in      []int
		want    []int
		acyclic api.Ref
	}{
		{3, []int{1, 5}, []int{1, 2, 5}, 0}, {3, []int{1, 5, 6}, []int{0, 1, 2, 3, 4, 5, 6, 7, 8}, 1}, {1, nil, nil, 0}, {1, []int{0}, []int{0}, 1}, {2, []int{1, 2}, []int{0, 1, 2, 3}, 1}, {4, nil, nil, 0},
	} {
		a := matrix.Const(rel(2, x.in...))
		want := matrix.Const(relation.Closure(x.n, rel(2, x.in...)))
		if !equal(want, matrix.Const(rel(2, x.want...))) {
			t.Errorf("closure of %v", x.in)
		}
		for _, f := range []func(api.Circuit, int, api.Matrix) (api.Circuit, api.Matrix){Squaring, Stepwise, Smaller} {
			if d, m := f(c, x.n, a); !equal(m, want) || len(d.Gates) != 1 {
				t.Errorf("closure of %v: %v", x.in, m)
			}
		}
		if d, r := Acyclic(c, x.n, a); r != x.acyclic || len(d.Gates) != 1 {
			t.Errorf("Acyclic(%v) = %d", x.in, r)
		}
	}
}

// P15.1: the operations in the order of the chapter.
func TestDefinitions(t *testing.T) {
	s := sample.New(1)
	smaller := map[bool]int{}
	for range 150 {
		n := s.Between(1, 5)
		c := s.Circuit(5, 5)
		a := s.Matrix(c, n, 2, false)
		d, m := c, a
		for range map[int]int{1: 0, 2: 1, 3: 2, 4: 2, 5: 3}[n] {
			var paths api.Matrix
			d, paths = matrix.Join(d, n, m, m)
			d, m = matrix.Union(d, m, paths)
		}
		e, k := c, a
		for range n - 1 {
			var paths api.Matrix
			e, paths = matrix.Join(e, n, k, a)
			e, k = matrix.Union(e, a, paths)
		}
		x, mx := Squaring(c, n, a)
		y, my := Stepwise(c, n, a)
		if !reflect.DeepEqual(x, d) || !equal(mx, m) || !reflect.DeepEqual(y, e) || !equal(my, k) {
			t.Fatalf("n = %d, %v", n, a)
		}
		z, mz := Smaller(c, n, a)
		first := len(x.Gates) <= len(y.Gates)
		smaller[first]++
		if first && (!reflect.DeepEqual(z, x) || !equal(mz, mx)) || !first && (!reflect.DeepEqual(z, y) || !equal(mz, my)) {
			t.Fatalf("Smaller: n = %d, %v", n, a)
		}
		r := 0
		w := z
		for i := range n {
			diagonal := 1
			for _, cell := range mz.Cells {
				if cell.Rank == i*n+i {
					diagonal = cell.Ref
				}
			}
			w, r = circuit.And(w, r, circuit.Not(diagonal))
		}
		if v, got := Acyclic(c, n, a); got != r || !reflect.DeepEqual(v, w) {
			t.Fatalf("Acyclic: n = %d, %v", n, a)
		}
	}
	if smaller[true] == 0 || smaller[false] == 0 {
		t.Errorf("%v", smaller)
	}
}

// P15.2 to P15.5: values, cycles, extension and size.
func TestValues(t *testing.T) {
	s := sample.New(2)
	for range 300 {
		n := s.Between(1, 4)
		c := s.Circuit(6, 4)
		a := s.Matrix(c, n, 2, false)
		before := slices.Clone(c.Gates)
		d, x := Squaring(c, n, a)
		e, y := Stepwise(c, n, a)
		f, z := Smaller(c, n, a)
		g, r := Acyclic(c, n, a)
		if len(f.Gates) != min(len(d.Gates), len(e.Gates)) {
			t.Fatalf("size: %v", a)
		}
		for i, h := range []api.Circuit{d, e, f, g} {
			if !circuit.Valid(h) || !slices.Equal(h.Gates[:len(before)], before) {
				t.Fatalf("circuit %d: %v", i, a)
			}
		}
		for range 5 {
			v := s.Values(6)
			want := relation.Closure(n, matrix.Value(c, a, v))
			if !relation.Equal(matrix.Value(d, x, v), want) || !relation.Equal(matrix.Value(e, y, v), want) || !relation.Equal(matrix.Value(f, z, v), want) {
				t.Fatalf("value: %v, %v", a, v)
			}
			if circuit.Eval(g, v, r) != (len(relation.Inter(want, relation.Iden(n)).Tuples) == 0) {
				t.Fatalf("cycles: %v, %v", a, v)
			}
		}
	}
}

// P15.1: a circuit that is full.
func TestFull(t *testing.T) {
	c := sample.Full()
	a := api.Matrix{Arity: 2, Cells: []api.Cell{{Rank: 1, Ref: 399}, {Rank: 2, Ref: 401}}}
	d, m := Smaller(c, 2, a)
	if len(d.Gates) != api.MaxGates || m.Cells[0].Ref != -1 || matrix.Valid(d, m) {
		t.Error(m)
	}
	if _, r := Acyclic(c, 2, a); r != -1 {
		t.Error(r)
	}
}

// Results share no memory with arguments, also without any round.
func TestMemory(t *testing.T) {
	c := sample.New(0).Circuit(2, 0)
	a := api.Matrix{Arity: 2, Cells: []api.Cell{{Rank: 0, Ref: 2}}}
	d, m := Squaring(c, 1, a)
	d.Gates[1].A, m.Cells[0].Ref = 9, 9
	if c.Gates[1].A != 1 || a.Cells[0].Ref != 2 {
		t.Error("results share memory")
	}
}
