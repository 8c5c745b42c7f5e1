package matrix

import (
	"reflect"
	"slices"
	"testing"

	"armature/api"
	"armature/circuit"
	"armature/relation"
	"armature/sample"
)

// mat returns a matrix with ranks and references in turn.
func mat(arity int, l ...int) api.Matrix {
	m := api.Matrix{Arity: arity}
	for i := 0; i < len(l); i += 2 {
		m.Cells = append(m.Cells, api.Cell{Rank: l[i], Ref: l[i+1]})
	}
	return m
}

func rel(arity int, tuples ...int) api.Rel { return api.Rel{Arity: arity, Tuples: tuples} }

func inputs(n int) api.Circuit { return sample.New(0).Circuit(n, 0) }

// P14.1: valid and invalid matrices.
func TestValid(t *testing.T) {
	c := inputs(2)
	for _, x := range []struct {
		m    api.Matrix
		want bool
	}{
		{mat(1), true}, {mat(3, 0, 0, 7, 5, 9, 2), true}, {mat(0), false}, {mat(4), false}, {mat(1, -1, 0), false}, {mat(1, 1, 0, 1, 2), false}, {mat(1, 2, 0, 1, 2), false}, {mat(1, 0, 1), false}, {mat(1, 0, 6), false}, {mat(1, 0, -1), false},
	} {
		if got := Valid(c, x.m); got != x.want {
			t.Errorf("Valid(%v) = %t", x.m, got)
		}
	}
}

// P14.1: the examples of the chapter, and values.
func TestExamples(t *testing.T) {
	if got := Const(rel(1, 0, 2)); !reflect.DeepEqual(got, mat(1, 0, 0, 2, 0)) {
		t.Error(got)
	}
	c := circuit.New()
	if d, r := Lone(c, Const(rel(1, 0, 2))); r != 1 || len(d.Gates) != 1 {
		t.Error(r)
	}
	if d, m := Join(c, 2, Const(rel(2, 1)), Const(rel(2, 2))); !reflect.DeepEqual(m, mat(2, 0, 0)) || len(d.Gates) != 1 {
		t.Error(m)
	}
	m := mat(2, 1, 2, 3, 5, 4, 0)
	if got := Value(inputs(2), m, []bool{true, false}); !relation.Equal(got, rel(2, 1, 3, 4)) {
		t.Error(got)
	}
	if got := Value(inputs(2), m, []bool{false, true}); !relation.Equal(got, rel(2, 4)) {
		t.Error(got)
	}
	if got := Transpose(3, mat(2, 1, 2, 3, 5, 5, 0)); !reflect.DeepEqual(got, mat(2, 1, 5, 3, 2, 7, 0)) {
		t.Error(got)
	}
}

// steps is a builder that performs the operations of the chapter one after the other.
type steps struct{ c api.Circuit }

func (w *steps) and(a, b api.Ref) (r api.Ref) { w.c, r = circuit.And(w.c, a, b); return r }
func (w *steps) or(a, b api.Ref) (r api.Ref)  { w.c, r = circuit.Or(w.c, a, b); return r }

// at returns the reference of a rank.
func at(m api.Matrix, rank int) (api.Ref, bool) {
	for _, x := range m.Cells {
		if x.Rank == rank {
			return x.Ref, true
		}
	}
	return 1, false
}

// definition computes an operation as the chapter describes it, for ranks below count.
func definition(c api.Circuit, n int, op string, a, b api.Matrix) (api.Circuit, api.Matrix) {
	w := &steps{c}
	power := []int{1, n, n * n, n * n * n, 0, 0, 0}
	m := api.Matrix{Arity: a.Arity}
	put := func(rank int, r api.Ref) {
		if r != 1 {
			m.Cells = append(m.Cells, api.Cell{Rank: rank, Ref: r})
		}
	}
	d := make([]api.Ref, n)
	for x := range n {
		d[x] = 1
		for _, y := range b.Cells {
			if op == "override" && y.Rank/power[b.Arity-1] == x {
				d[x] = w.or(d[x], y.Ref)
			}
		}
	}
	for rank := range power[a.Arity] {
		x, inA := at(a, rank)
		y, inB := at(b, rank)
		switch {
		case op == "union" && inA && inB:
			put(rank, w.or(x, y))
		case op == "union" && (inA || inB):
			put(rank, map[bool]int{true: x, false: y}[inA])
		case op == "inter" && inA && inB:
			put(rank, w.and(x, y))
		case op == "diff" && inA && inB:
			put(rank, w.and(x, circuit.Not(y)))
		case op == "diff" && inA:
			put(rank, x)
		case op == "override" && (inA || inB):
			t := 1
			if inA {
				t = w.and(x, circuit.Not(d[rank/power[a.Arity-1]]))
			}
			put(rank, w.or(t, y))
		}
	}
	if op == "product" || op == "join" {
		return pairs(w, n, op, a, b)
	}
	return w.c, m
}

// pairs computes a product or a join as the chapter describes it.
func pairs(w *steps, n int, op string, a, b api.Matrix) (api.Circuit, api.Matrix) {
	power := []int{1, n, n * n, n * n * n, 0, 0, 0}
	m := api.Matrix{Arity: a.Arity + b.Arity}
	if op == "join" {
		m.Arity -= 2
	}
	refs := make([]api.Ref, power[m.Arity])
	for i := range refs {
		refs[i] = 1
	}
	for _, x := range a.Cells {
		for _, y := range b.Cells {
			if op == "product" {
				refs[x.Rank*power[b.Arity]+y.Rank] = w.and(x.Ref, y.Ref)
			} else if x.Rank%n == y.Rank/power[b.Arity-1] {
				t := w.and(x.Ref, y.Ref)
				rank := x.Rank/n*power[b.Arity-1] + y.Rank%power[b.Arity-1]
				refs[rank] = w.or(refs[rank], t)
			}
		}
	}
	for rank, r := range refs {
		if r != 1 {
			m.Cells = append(m.Cells, api.Cell{Rank: rank, Ref: r})
		}
	}
	return w.c, m
}

// operation calls the functions of the package by name.
func operation(c api.Circuit, n int, op string, a, b api.Matrix) (api.Circuit, api.Matrix) {
	switch op {
	case "union":
		return Union(c, a, b)
	case "inter":
		return Inter(c, a, b)
	case "diff":
		return Diff(c, a, b)
	case "override":
		return Override(c, n, a, b)
	case "product":
		return Product(c, n, a, b)
	}
	return Join(c, n, a, b)
}

// values computes the operation of package relation.
func values(n int, op string, a, b api.Rel) api.Rel {
	var r api.Rel
	switch op {
	case "union":
		r = relation.Union(a, b)
	case "inter":
		r = relation.Inter(a, b)
	case "diff":
		r = relation.Diff(a, b)
	case "override":
		r = relation.Override(n, a, b)
	case "product":
		r, _ = relation.Product(n, a, b)
	case "join":
		r, _ = relation.Join(n, a, b)
	}
	return r
}

// fits reports whether an operation is specified for two arities.
func fits(op string, a, b int) bool {
	switch op {
	case "product":
		return a+b <= 3
	case "join":
		return a+b-2 >= 1 && a+b-2 <= 3
	}
	return a == b
}

// P14.1 to P14.4: every operation against its description, its meaning, and the circuit of the argument.
func TestOperations(t *testing.T) {
	s := sample.New(1)
	for range 1500 {
		n := s.Between(1, 3)
		constant := s.Chance(20)
		c := s.Circuit(4, s.Below(8))
		a, b := s.Matrix(c, n, s.Between(1, 3), constant), s.Matrix(c, n, s.Between(1, 3), constant)
		for _, op := range []string{"union", "inter", "diff", "override", "product", "join"} {
			if !fits(op, a.Arity, b.Arity) {
				continue
			}
			before := slices.Clone(c.Gates)
			d, m := operation(c, n, op, a, b)
			e, want := definition(c, n, op, a, b)
			if !slices.Equal(d.Gates, e.Gates) || m.Arity != want.Arity || !slices.Equal(m.Cells, want.Cells) {
				t.Fatalf("%s of %v and %v: %v, not %v", op, a, b, m, want)
			}
			if !Valid(d, m) || !circuit.Valid(d) || !slices.Equal(d.Gates[:len(before)], before) || constant && len(d.Gates) > len(before) {
				t.Fatalf("%s of %v and %v: %v", op, a, b, d)
			}
			v := s.Values(4)
			x, y := Value(c, a, v), Value(c, b, v)
			if got := Value(d, m, v); !relation.Equal(got, values(n, op, x, y)) || !relation.Equal(Value(d, a, v), x) {
				t.Fatalf("%s of %v and %v: value %v", op, a, b, got)
			}
		}
		if b.Arity == 2 {
			v := s.Values(4)
			if got := Transpose(n, b); !Valid(c, got) || !relation.Equal(Value(c, got, v), relation.Transpose(n, Value(c, b, v))) {
				t.Fatalf("Transpose(%v) = %v", b, got)
			}
		}
		checkPredicates(t, s, c, a, s.Matrix(c, n, a.Arity, constant), constant)
	}
}

// checkPredicates checks In, Some and Lone.
func checkPredicates(t *testing.T, s *sample.Source, c api.Circuit, a, b api.Matrix, constant bool) {
	t.Helper()
	w := &steps{c}
	in, some, one, two := 0, 1, 1, 1
	for _, x := range a.Cells {
		y, _ := at(b, x.Rank)
		in = w.and(in, circuit.Not(w.and(x.Ref, circuit.Not(y))))
	}
	d, r := In(c, a, b)
	if r != in || !slices.Equal(d.Gates, w.c.Gates) {
		t.Fatalf("In(%v, %v) = %d, not %d", a, b, r, in)
	}
	w.c = d
	for _, x := range a.Cells {
		some = w.or(some, x.Ref)
	}
	d, r2 := Some(d, a)
	if r2 != some || !slices.Equal(d.Gates, w.c.Gates) {
		t.Fatalf("Some(%v) = %d, not %d", a, r2, some)
	}
	for _, x := range a.Cells {
		two = w.or(two, w.and(one, x.Ref))
		one = w.or(one, x.Ref)
	}
	d, r3 := Lone(d, a)
	if r3 != circuit.Not(two) || !slices.Equal(d.Gates, w.c.Gates) || !circuit.Valid(d) || constant && (len(d.Gates) > len(c.Gates) || max(r, r2, r3) > 1) {
		t.Fatalf("Lone(%v) = %d, not %d", a, r3, circuit.Not(two))
	}
	v := s.Values(4)
	x, y := Value(d, a, v), Value(d, b, v)
	if circuit.Eval(d, v, r) != relation.In(x, y) || circuit.Eval(d, v, r2) != (len(x.Tuples) > 0) || circuit.Eval(d, v, r3) != (len(x.Tuples) < 2) {
		t.Fatalf("%v, %v: %d, %d, %d", x, y, r, r2, r3)
	}
}

// P14.1: a circuit that is full yields references -1 where a gate is missing, and only there.
func TestFull(t *testing.T) {
	c := sample.Full()
	a, b := mat(1, 0, 2, 1, 399, 2, 4), mat(1, 0, 4, 1, 401, 3, 6)
	if d, m := Inter(c, a, b); !reflect.DeepEqual(m.Cells, mat(1, 0, 402, 1, -1).Cells) && m.Cells[1].Ref != -1 || len(d.Gates) != api.MaxGates {
		t.Error(m)
	}
	if _, m := Union(c, a, b); m.Cells[1].Ref != -1 || m.Cells[2].Ref != 4 || m.Cells[3].Ref != 6 || Valid(c, m) {
		t.Error(m)
	}
	if _, m := Diff(c, mat(1, 0, 399), mat(1, 0, 400)); m.Cells[0].Ref != -1 {
		t.Error(m)
	}
	if _, m := Override(c, 2, mat(2, 0, 2), mat(2, 0, 399, 1, 397)); m.Cells[0].Ref != -1 {
		t.Error(m)
	}
	if _, r := In(c, mat(1, 0, 399), mat(1, 0, 400)); r != -1 {
		t.Error(r)
	}
	if _, r := Some(c, mat(1, 0, 398, 1, 400)); r != -1 {
		t.Error(r)
	}
	if _, r := Lone(c, mat(1, 0, 399, 1, 401)); r != -1 {
		t.Error(r)
	}
	if _, m := Join(c, 1, mat(2, 0, 399), mat(2, 0, 401)); m.Cells[0].Ref != -1 {
		t.Error(m)
	}
	if _, m := Product(c, 1, mat(1, 0, 399), mat(1, 0, 401)); m.Cells[0].Ref != -1 {
		t.Error(m)
	}
}

// Arguments out of range do not make the package fail.
func TestOutOfRange(t *testing.T) {
	c := inputs(1)
	Join(c, 0, mat(1, 0, 2), mat(2, 0, 2))
	Override(c, 1, mat(1, 7, 2), mat(1, 0, 2))
	Override(c, -1, mat(1, 7, 2), mat(1, 0, 2))
	if got := Transpose(0, mat(2, 3, 2)); len(got.Cells) != 0 {
		t.Error(got)
	}
}

// Results share no memory with arguments.
func TestMemory(t *testing.T) {
	c, a := inputs(2), mat(1, 0, 2)
	d, m := Union(c, a, mat(1))
	d.Gates[1].A, m.Cells[0].Ref = 9, 9
	e, _ := Some(c, mat(1))
	e.Gates[1].A = 9
	if c.Gates[1].A != 1 || a.Cells[0].Ref != 2 {
		t.Error("results share memory")
	}
}
