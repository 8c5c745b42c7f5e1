package gates

import (
	"slices"
	"testing"

	"armature/api"
	"armature/sample"
)

// simple performs an operation as the chapter describes it, on a copy of the circuit.
func simple(c api.Circuit, kind, a, b int) (api.Circuit, api.Ref) {
	end := 2 * len(c.Gates)
	g := api.Gate{Kind: kind, A: min(a, b), B: max(a, b)}
	if kind == api.GateInput {
		g = api.Gate{Kind: kind, A: a}
		if a < 1 || a > api.MaxVars {
			return c, None
		}
	} else {
		switch {
		case a < 0 || b < 0 || a >= end || b >= end:
			return c, None
		case a == 1 || b == 1 || b == Not(a):
			return c, 1
		case a == 0:
			return c, b
		case b == 0 || a == b:
			return c, a
		}
	}
	if i := slices.Index(c.Gates, g); i >= 0 {
		return c, 2 * i
	}
	if len(c.Gates) == api.MaxGates {
		return c, None
	}
	return api.Circuit{Gates: append(slices.Clone(c.Gates), g)}, end
}

// Many operations in a row have the results of single ones, with and without the index.
func TestGrowing(t *testing.T) {
	s := sample.New(1)
	for _, length := range []int{5, 40, 1500} {
		for range 10 {
			c := s.Circuit(s.Below(4), s.Below(5))
			first := slices.Clone(c.Gates)
			g := From(c)
			want := c
			for range length {
				a, b := s.Between(-1, 2*g.Len()), s.Between(-1, 2*g.Len())
				if s.Chance(60) {
					b = max(0, 2*g.Len()-s.Between(1, 6))
				}
				var r api.Ref
				var got int
				switch s.Below(4) {
				case 0:
					v := s.Between(-1, 30)
					want, r = simple(want, api.GateInput, v, 0)
					got = g.Input(v)
				case 1:
					want, r = simple(want, api.GateAnd, Not(a), Not(b))
					r, got = Not(r), g.Or(a, b)
				default:
					want, r = simple(want, api.GateAnd, a, b)
					got = g.And(a, b)
				}
				if got != r || g.Len() != len(want.Gates) {
					t.Fatalf("%d, %d: %d, not %d", a, b, got, r)
				}
			}
			if !slices.Equal(g.Circuit().Gates, want.Gates) || !slices.Equal(c.Gates, first) {
				t.Fatalf("%v, not %v", g.Circuit(), want)
			}
			if length > 1000 && g.index == nil || length < 10 && g.index != nil {
				t.Fatalf("%d operations: index of %d gates", length, len(g.index))
			}
		}
	}
}

// Circuits that were returned do not change when the growth goes on.
func TestSnapshots(t *testing.T) {
	s := sample.New(2)
	c := api.Circuit{Gates: append(make([]api.Gate, 0, 50), s.Circuit(3, 0).Gates...)}
	g := From(c)
	var kept []api.Circuit
	var copies [][]api.Gate
	for i := range 30 {
		if i%3 > 0 {
			g.And(s.Below(2*g.Len()), s.Below(2*g.Len()))
		}
		x := g.Circuit()
		kept, copies = append(kept, x), append(copies, slices.Clone(x.Gates))
	}
	for i, x := range kept {
		if !slices.Equal(x.Gates, copies[i]) {
			t.Fatalf("circuit %d changes", i)
		}
		for j, y := range kept[:i] {
			if &x.Gates[0] == &y.Gates[0] || &x.Gates[0] == &c.Gates[0] {
				t.Fatalf("circuits %d and %d share memory", j, i)
			}
		}
	}
	if c.Gates[:5][4] != (api.Gate{}) {
		t.Error("the argument changes beyond its length")
	}
}

// A full circuit grows no more.
func TestFull(t *testing.T) {
	c := sample.Full()
	last := len(c.Gates) - 1
	g := From(api.Circuit{Gates: c.Gates[:last]})
	if r := g.And(399, 401); r != 2*last || g.Len() != api.MaxGates {
		t.Errorf("the last gate: %d", r)
	}
	if r := g.And(397, 401); r != None || g.Input(5000) != None || g.Len() != api.MaxGates {
		t.Errorf("one gate too many: %d", r)
	}
	if r := g.And(401, 399); r != 2*last || g.Input(200) != 400 || g.Or(398, 400) != 2*last+1 {
		t.Errorf("a gate that is there: %d", r)
	}
	if Not(None) != None || Not(-7) != None || Not(4) != 5 || Not(5) != 4 || g.Input(0) != None || g.Input(api.MaxVars+1) != None || g.Input(1) != 2 {
		t.Error("references out of range")
	}
}
