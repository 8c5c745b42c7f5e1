package count

import (
	"slices"
	"testing"

	"armature/api"
	"armature/circuit"
	"armature/sample"
)

// references returns the references of the first n variables of a circuit of package sample.
func references(n int) []api.Ref {
	var out []api.Ref
	for v := range n {
		out = append(out, 2*(v+1))
	}
	return out
}

// values returns the assignment whose bits are those of a number.
func values(n, bits int) []bool {
	out := make([]bool, n)
	for i := range out {
		out[i] = bits>>i&1 == 1
	}
	return out
}

// unary reports whether the values of references are those of a unary number.
func unary(c api.Circuit, u []api.Ref, v []bool) bool {
	for i := 1; i < len(u); i++ {
		if circuit.Eval(c, v, u[i]) && !circuit.Eval(c, v, u[i-1]) {
			return false
		}
	}
	return true
}

// P16.1: small numbers of inputs, under all assignments.
func TestCounting(t *testing.T) {
	for n := range 8 {
		c := sample.New(0).Circuit(n, 0)
		in := references(n)
		d, sorted := Sorter(c, in)
		e, total := Totalizer(c, in)
		if len(sorted) != n || len(total) != n || !circuit.Valid(d) || !circuit.Valid(e) {
			t.Fatalf("%d inputs: %v, %v", n, sorted, total)
		}
		for bits := range 1 << n {
			v := values(n, bits)
			want := Value(c, in, v)
			if !unary(d, sorted, v) || !unary(e, total, v) || Value(d, sorted, v) != want || Value(e, total, v) != want {
				t.Fatalf("%d inputs, %v", n, v)
			}
		}
		for k := -2; k <= n+2; k++ {
			f, r := AtLeast(c, in, k)
			if k <= 0 && r != 0 || k > n && r != 1 || (k <= 0 || k > n) && len(f.Gates) != n+1 {
				t.Errorf("AtLeast of %d inputs, %d: %d", n, k, r)
			}
			for bits := range 1 << n {
				if v := values(n, bits); circuit.Eval(f, v, r) != (Value(c, in, v) >= k) {
					t.Errorf("AtLeast of %d inputs, %d: %v", n, k, v)
				}
			}
		}
	}
}

// P16.1: the examples of the chapter, and extreme thresholds.
func TestExamples(t *testing.T) {
	c := sample.New(0).Circuit(2, 0)
	d, r := AtLeast(c, references(2), 2)
	if e, s := circuit.And(d, 2, 4); s != r || len(e.Gates) != len(d.Gates) {
		t.Errorf("AtLeast: %d, not %d", r, s)
	}
	if d, r := Less(c, nil, nil, 1); r != 0 || len(d.Gates) != 3 {
		t.Error(r)
	}
	if _, r := Less(c, nil, nil, 0); r != 1 {
		t.Error(r)
	}
	if _, r := AtLeast(c, references(2), -1<<63); r != 0 {
		t.Error(r)
	}
	if _, r := AtLeast(c, references(2), 1<<62); r != 1 {
		t.Error(r)
	}
	if got := Value(c, []api.Ref{0, 1, 2, -1, 99, 3}, []bool{true}); got != 2 {
		t.Errorf("Value: %d", got)
	}
}

// P16.3: the size of sorting networks.
func TestSize(t *testing.T) {
	comparators := []int{0, 1, 5, 19, 63, 191, 543}
	for n := range 65 {
		p := 0
		for 1<<p < n {
			p++
		}
		c := sample.New(0).Circuit(n, 0)
		d, out := Sorter(c, references(n))
		if len(d.Gates)-len(c.Gates) > 2*comparators[p] || len(out) != n {
			t.Errorf("%d inputs: %d gates", n, len(d.Gates)-len(c.Gates))
		}
	}
	network := 0
	mergeSort(0, 64, func(int, int) { network++ })
	if network != 543 {
		t.Errorf("%d comparators", network)
	}
}

// P16.1, P16.2, P16.4, P16.5 on sampled inputs, which may be repeated, negated or constant.
func TestRandom(t *testing.T) {
	s := sample.New(1)
	for range 300 {
		c := s.Circuit(5, 6)
		constant := s.Chance(15)
		var in, negated []api.Ref
		for range s.Below(11) {
			r := s.Below(2 * len(c.Gates))
			if constant {
				r = s.Below(2)
			}
			in, negated = append(in, r), append(negated, circuit.Not(r))
		}
		n := len(in)
		for _, f := range []func(api.Circuit, []api.Ref) (api.Circuit, []api.Ref){Sorter, Totalizer} {
			d, out := f(c, in)
			e, again := f(d, in)
			g, mixed := f(d, sample.Shuffle(s, in))
			g, opposite := f(g, negated)
			if !circuit.Valid(d) || !slices.Equal(d.Gates[:len(c.Gates)], c.Gates) || len(e.Gates) != len(d.Gates) || !slices.Equal(out, again) {
				t.Fatalf("%v: not an extension", in)
			}
			if constant && (len(d.Gates) != len(c.Gates) || n > 0 && slices.Max(out) > 1) {
				t.Fatalf("%v: constants", in)
			}
			for range 5 {
				v := s.Values(5)
				if Value(d, out, v) != Value(c, in, v) || !unary(d, out, v) || Value(g, mixed, v) != Value(c, in, v) {
					t.Fatalf("%v, %v: %v", in, v, out)
				}
				k := s.Between(1, max(n, 1))
				h, r := AtLeast(g, in, k)
				h, q := AtLeast(h, negated, n-k+1)
				for i := range out {
					if circuit.Eval(g, v, out[i]) == circuit.Eval(g, v, opposite[n-1-i]) {
						t.Fatalf("%v, %v: duality", in, v)
					}
				}
				if circuit.Eval(h, v, r) == circuit.Eval(h, v, q) || n > 0 && circuit.Eval(h, v, r) != circuit.Eval(h, v, out[k-1]) {
					t.Fatalf("%v, %v: threshold %d", in, v, k)
				}
			}
		}
	}
}

// P16.1, P16.6, P16.7: arithmetic.
func TestArithmetic(t *testing.T) {
	s := sample.New(2)
	for range 300 {
		c := s.Circuit(6, 4)
		number := func() (u []api.Ref) {
			var in []api.Ref
			for range s.Below(5) {
				in = append(in, s.Below(2*len(c.Gates)))
			}
			c, u = Sorter(c, in)
			return u
		}
		a, b, x := number(), number(), number()
		c, ab := Add(c, a, b)
		c, ba := Add(c, b, a)
		c, left := Add(c, ab, x)
		c, bx := Add(c, b, x)
		c, right := Add(c, a, bx)
		if d, again := Add(c, a, b); len(d.Gates) != len(c.Gates) || !slices.Equal(again, ab) || len(ab) != len(a)+len(b) || !circuit.Valid(c) {
			t.Fatalf("Add(%v, %v) = %v", a, b, ab)
		}
		for range 8 {
			v := s.Values(6)
			va, vb, vx := Value(c, a, v), Value(c, b, v), Value(c, x, v)
			if Value(c, ab, v) != va+vb || Value(c, ba, v) != va+vb || Value(c, left, v) != va+vb+vx || Value(c, right, v) != va+vb+vx || !unary(c, ab, v) {
				t.Fatalf("sums of %d, %d, %d", va, vb, vx)
			}
			for _, by := range []int{-200, -4, -1, 0, 1, 2, 5, 200} {
				d, r := Less(c, a, b, by)
				e, q := Less(d, b, a, 1-by)
				if circuit.Eval(d, v, r) != (va < vb+by) || circuit.Eval(e, v, q) == circuit.Eval(e, v, r) {
					t.Fatalf("%d < %d + %d", va, vb, by)
				}
			}
		}
	}
}

// P16.1: a circuit that is full yields -1 exactly where a gate is missing.
func TestFull(t *testing.T) {
	c := sample.Full()
	d, out := Sorter(c, []api.Ref{399, 401, 1})
	if len(d.Gates) != api.MaxGates || out[0] != -1 {
		t.Error(out)
	}
	if _, out := Totalizer(c, []api.Ref{399}); out[0] != 399 {
		t.Error(out)
	}
	if _, out := Totalizer(c, []api.Ref{399, 401}); out[0] != -1 || out[1] != -1 {
		t.Error(out)
	}
	if _, r := AtLeast(c, []api.Ref{399, 401}, 2); r != -1 {
		t.Error(r)
	}
	if _, r := AtLeast(c, []api.Ref{399, 401}, 3); r != 1 {
		t.Error(r)
	}
	if _, r := Less(c, []api.Ref{399}, []api.Ref{401}, 0); r != -1 {
		t.Error(r)
	}
}

// Results share no memory with arguments.
func TestMemory(t *testing.T) {
	c, in := sample.New(0).Circuit(1, 0), []api.Ref{2}
	for _, f := range []func(api.Circuit, []api.Ref) (api.Circuit, []api.Ref){Sorter, Totalizer} {
		d, out := f(c, in)
		d.Gates[1].A, out[0] = 9, 9
		if c.Gates[1].A != 1 || in[0] != 2 {
			t.Fatal("results share memory")
		}
	}
}
