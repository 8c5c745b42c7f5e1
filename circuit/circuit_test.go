package circuit

import (
	"slices"
	"testing"

	"armature/api"
	"armature/sample"
)

// inputs returns a circuit with the variables 1 to n, whose references are 2, 4 and so on.
func inputs(n int) api.Circuit {
	c := New()
	for v := range n {
		c, _ = Input(c, v+1)
	}
	return c
}

// P13.1: Valid accepts circuits, and rejects each way of being malformed.
func TestValid(t *testing.T) {
	and := func(a, b int) api.Gate { return api.Gate{Kind: api.GateAnd, A: a, B: b} }
	in := func(v int) api.Gate { return api.Gate{Kind: api.GateInput, A: v} }
	one := api.Gate{}
	for _, x := range []struct {
		gates []api.Gate
		want  bool
	}{
		{[]api.Gate{one}, true}, {[]api.Gate{one, in(7), in(20000)}, true}, {[]api.Gate{one, in(1), in(2), and(2, 4), and(3, 4), and(2, 6), and(5, 9)}, true},
		{nil, false}, {[]api.Gate{in(1)}, false}, {[]api.Gate{{Kind: 0, A: 1}}, false}, {[]api.Gate{{Kind: 0, B: 1}}, false}, {[]api.Gate{one, one}, false}, {[]api.Gate{one, in(0)}, false}, {[]api.Gate{one, in(20001)}, false},
		{[]api.Gate{one, in(-1)}, false}, {[]api.Gate{one, {Kind: api.GateInput, A: 1, B: 1}}, false}, {[]api.Gate{one, in(1), in(1)}, false}, {[]api.Gate{one, in(1), in(2), and(4, 2)}, false}, {[]api.Gate{one, in(1), in(2), and(2, 2)}, false},
		{[]api.Gate{one, in(1), in(2), and(2, 3)}, false}, {[]api.Gate{one, in(1), in(2), and(0, 2)}, false}, {[]api.Gate{one, in(1), in(2), and(1, 2)}, false}, {[]api.Gate{one, in(1), in(2), and(2, 6)}, false}, {[]api.Gate{one, in(1), in(2), and(-1, 2)}, false},
		{[]api.Gate{one, in(1), in(2), and(2, 4), and(2, 4)}, false}, {[]api.Gate{one, {Kind: 3, A: 1}}, false}, {[]api.Gate{one, {Kind: -1}}, false},
	} {
		if got := Valid(api.Circuit{Gates: x.gates}); got != x.want {
			t.Errorf("Valid(%v) = %t", x.gates, got)
		}
	}
	c := full()
	if !Valid(c) || Valid(api.Circuit{Gates: append(c.Gates, and(3, 5))}) {
		t.Error("the limit of the number of gates")
	}
}

// full returns a circuit with as many gates as possible: 200 inputs and conjunctions of two of them, and of their negations.
func full() api.Circuit {
	c := inputs(200)
	for a := 2; a < 402; a++ {
		for b := a + 1; b < 402; b++ {
			if len(c.Gates) == api.MaxGates {
				return c
			}
			if a/2 != b/2 && a%2 == 0 {
				c.Gates = append(c.Gates, api.Gate{Kind: api.GateAnd, A: a, B: b})
			}
		}
	}
	return c
}

// P13.1: the rules of And, one after the other, and inputs.
func TestAnd(t *testing.T) {
	c := inputs(2)
	for _, x := range []struct{ a, b, want int }{
		{-1, 2, -1}, {2, -1, -1}, {6, 2, -1}, {2, 6, -1}, {-1, 1, -1}, {1, 9, -1}, {1, 2, 1}, {2, 1, 1}, {2, 3, 1}, {3, 2, 1}, {0, 1, 1}, {0, 4, 4}, {4, 0, 4}, {0, 0, 0}, {5, 5, 5}, {1, 1, 1},
	} {
		d, r := And(c, x.a, x.b)
		if r != x.want || !slices.Equal(d.Gates, c.Gates) {
			t.Errorf("And(%d, %d) = %d with %d gates", x.a, x.b, r, len(d.Gates))
		}
	}
	d, r := And(c, 4, 2)
	if r != 6 || len(d.Gates) != 4 || d.Gates[3] != (api.Gate{Kind: api.GateAnd, A: 2, B: 4}) {
		t.Errorf("And(4, 2) = %d, %v", r, d.Gates)
	}
	e, s := And(d, 2, 4)
	if s != 6 || len(e.Gates) != 4 {
		t.Errorf("And(2, 4) = %d, %v", s, e.Gates)
	}
	if e, s = And(d, 3, 4); s != 8 || len(e.Gates) != 5 {
		t.Errorf("And(3, 4) = %d, %v", s, e.Gates)
	}
	for v, want := range map[int]int{0: -1, -1: -1, 20001: -1, 1: 2, 2: 4, 20000: 6} {
		d, r := Input(c, v)
		if r != want || len(d.Gates) != max(3, r/2+1) || r > 0 && d.Gates[r/2] != (api.Gate{Kind: api.GateInput, A: v}) {
			t.Errorf("Input(%d) = %d, %v", v, r, d.Gates)
		}
	}
	if c := New(); len(c.Gates) != 1 || !Valid(c) {
		t.Error("New")
	}
	for r, want := range map[int]int{0: 1, 1: 0, 6: 7, 7: 6, -1: -1, -8: -1} {
		if got := Not(r); got != want {
			t.Errorf("Not(%d) = %d", r, got)
		}
	}
}

// P13.1: Or and Iff are built from And.
func TestOrIff(t *testing.T) {
	c := inputs(2)
	d, r := Or(c, 2, 4)
	if r != 7 || len(d.Gates) != 4 || d.Gates[3] != (api.Gate{Kind: api.GateAnd, A: 3, B: 5}) {
		t.Errorf("Or: %d, %v", r, d.Gates)
	}
	d, r = Iff(c, 2, 4)
	want := []api.Gate{{Kind: api.GateAnd, A: 2, B: 5}, {Kind: api.GateAnd, A: 3, B: 4}, {Kind: api.GateAnd, A: 7, B: 9}}
	if r != 10 || !slices.Equal(d.Gates[3:], want) {
		t.Errorf("Iff: %d, %v", r, d.Gates)
	}
	for _, x := range []struct{ a, b, or, iff int }{{0, 2, 0, 2}, {1, 2, 2, 3}, {2, 2, 2, 0}, {2, 3, 0, 1}, {-1, 2, -1, -1}, {2, -1, -1, -1}, {1, 1, 1, 0}} {
		_, or := Or(c, x.a, x.b)
		e, iff := Iff(c, x.a, x.b)
		if or != x.or || iff != x.iff || len(e.Gates) != 3 {
			t.Errorf("%d and %d: Or is %d, Iff is %d", x.a, x.b, or, iff)
		}
	}
}

// P13.1: a circuit that is full, or nearly.
func TestFull(t *testing.T) {
	c := full()
	if d, r := Input(c, 5000); r != -1 || len(d.Gates) != api.MaxGates {
		t.Errorf("Input: %d", r)
	}
	if d, r := Input(c, 200); r != 400 || len(d.Gates) != api.MaxGates {
		t.Errorf("Input: %d", r)
	}
	if d, r := And(c, 399, 401); r != -1 || len(d.Gates) != api.MaxGates {
		t.Errorf("And: %d", r)
	}
	if d, r := And(c, 4, 2); r != 402 || len(d.Gates) != api.MaxGates {
		t.Errorf("And: %d", r)
	}
	if _, r := And(c, 399, 398); r != 1 {
		t.Errorf("And: %d", r)
	}
	if _, r := Or(c, 398, 400); r != -1 {
		t.Errorf("Or: %d", r)
	}
	less := api.Circuit{Gates: c.Gates[:api.MaxGates-1]}
	if d, r := Iff(less, 397, 401); r != -1 || len(d.Gates) != api.MaxGates {
		t.Errorf("Iff: %d, %d gates", r, len(d.Gates))
	}
	if len(less.Gates) != api.MaxGates-1 || c.Gates[api.MaxGates-1].Kind != api.GateAnd {
		t.Error("the argument has changed")
	}
}

// P13.1: values of references, valid or not.
func TestEval(t *testing.T) {
	c, r := And(inputs(2), 2, 5)
	for _, x := range []struct {
		values []bool
		r      int
		want   bool
	}{
		{nil, 0, true}, {nil, 1, false}, {nil, 2, false}, {nil, 3, true}, {[]bool{true}, 2, true}, {[]bool{true}, 4, false}, {[]bool{true}, r, true}, {[]bool{true}, r + 1, false}, {[]bool{true, true}, r, false},
		{[]bool{true}, -1, false}, {[]bool{true}, r + 2, false}, {[]bool{true, false, true}, r, true},
	} {
		if got := Eval(c, x.values, x.r); got != x.want {
			t.Errorf("Eval(%v, %d) = %t", x.values, x.r, got)
		}
	}
	d, s := Input(New(), 3)
	if Eval(d, []bool{true, true}, s) || !Eval(d, []bool{false, false, true}, s) {
		t.Error("variable 3")
	}
}

// P13.2 to P13.6 on circuits that grow by random operations.
func TestRandom(t *testing.T) {
	s := sample.New(1)
	for range 200 {
		c := inputs(4)
		values := []bool{s.Chance(50), s.Chance(50), s.Chance(50), s.Chance(50)}
		for range 30 {
			a, b := s.Below(2*len(c.Gates)), s.Below(2*len(c.Gates))
			op := sample.Pick(s, []func(api.Circuit, api.Ref, api.Ref) (api.Circuit, api.Ref){And, Or, Iff})
			x, y := Eval(c, values, a), Eval(c, values, b)
			before := slices.Clone(c.Gates)
			d, r := op(c, a, b)
			_, and := And(d, a, b)
			_, or := Or(d, a, b)
			e, iff := Iff(d, a, b)
			if !Valid(d) || r < 0 || r >= 2*len(d.Gates) || !slices.Equal(d.Gates[:len(before)], before) || !slices.Equal(c.Gates, before) {
				t.Fatalf("%v, %d, %d: %v", c, a, b, d)
			}
			if and >= 0 && and < 2*len(d.Gates) && Eval(d, values, and) != (x && y) || or >= 0 && or/2 < len(d.Gates) && Eval(d, values, or) != (x || y) || Eval(e, values, iff) != (x == y) {
				t.Fatalf("%v, %d, %d: values", c, a, b)
			}
			checkSharing(t, op, d, a, b, r)
			if len(d.Gates) > len(c.Gates) && (r < 2 || r/2 == a/2 || r/2 == b/2) {
				t.Fatalf("%v: gates are appended for %d", d, r)
			}
			if Eval(d, values, a) != x || Eval(d, values, b) != y {
				t.Fatalf("%v: old references change", d)
			}
			c = d
		}
		checkCone(t, s, c, values)
	}
}

// checkSharing checks that repeating a call, in either order, changes nothing.
func checkSharing(t *testing.T, op func(api.Circuit, api.Ref, api.Ref) (api.Circuit, api.Ref), c api.Circuit, a, b, r api.Ref) {
	t.Helper()
	d, again := op(c, a, b)
	e, swapped := op(c, b, a)
	if again != r || swapped != r || len(d.Gates) != len(c.Gates) || len(e.Gates) != len(c.Gates) {
		t.Fatalf("%v: %d, %d, %d", c, r, again, swapped)
	}
}

// checkCone changes the variables that a reference does not reach.
func checkCone(t *testing.T, s *sample.Source, c api.Circuit, values []bool) {
	t.Helper()
	r := s.Below(2 * len(c.Gates))
	reached := map[int]bool{r / 2: true}
	other := make([]bool, len(values))
	for v := range other {
		other[v] = !values[v]
	}
	for i := r / 2; i > 0; i-- {
		g := c.Gates[i]
		if reached[i] && g.Kind == api.GateAnd {
			reached[g.A/2], reached[g.B/2] = true, true
		}
		if reached[i] && g.Kind == api.GateInput {
			other[g.A-1] = values[g.A-1]
		}
	}
	if Eval(c, values, r) != Eval(c, other, r) {
		t.Fatalf("%v, %d", c, r)
	}
}

// Results share no memory with the argument.
func TestMemory(t *testing.T) {
	c := api.Circuit{Gates: append(make([]api.Gate, 0, 100), inputs(2).Gates...)}
	d, _ := And(c, 2, 4)
	e, _ := And(c, 3, 4)
	f, _ := And(c, 2, 2)
	if d.Gates[3].A != 2 || e.Gates[3].A != 3 {
		t.Error("two extensions share memory")
	}
	f.Gates[1].A = 9
	if c.Gates[1].A != 1 {
		t.Error("the result shares memory")
	}
}
