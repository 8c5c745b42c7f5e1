package lasso_test

import (
	"reflect"
	"slices"
	"testing"

	"armature/api"
	"armature/bounds"
	"armature/circuit"
	"armature/eval"
	"armature/lasso"
	"armature/matrix"
	"armature/model"
	"armature/parser"
	"armature/printer"
	"armature/relation"
	"armature/sample"
	"armature/typing"
)

func spec(t *testing.T, text string) api.Spec {
	t.Helper()
	sp, d := parser.Parse(text)
	if len(d) > 0 || len(typing.Check(sp)) > 0 {
		t.Fatalf("%q: %v", text, d)
	}
	return sp
}

func formula(t *testing.T, text string) api.Node {
	t.Helper()
	n, d := parser.ParseFormula(text)
	if len(d) > 0 {
		t.Fatalf("%q: %v", text, d)
	}
	return n
}

func rel(arity int, tuples ...int) api.Rel { return api.Rel{Arity: arity, Tuples: tuples} }

func scope(steps int, atoms ...int) api.Scope { return api.Scope{Atoms: atoms, Steps: steps} }

// bits writes an assignment.
func bits(values []bool) string {
	var b []byte
	for _, v := range values {
		b = append(b, map[bool]byte{true: '1', false: '0'}[v])
	}
	return string(b)
}

// P18.1: the numbering of variables.
func TestNumbering(t *testing.T) {
	sp := spec(t, "sort A; var field f: A; field g: A;")
	b := []api.Bound{{Lower: rel(1), Upper: rel(1, 0, 1)}, {Lower: rel(1, 0), Upper: rel(1, 0, 1)}}
	for steps, want := range map[int]int{1: 3, 2: 2 + 3 + 2, 3: 3 + 3 + 4, 4: 4 + 3 + 6} {
		if got := lasso.Inputs(sp, scope(steps, 2), b); got != want {
			t.Errorf("Inputs for %d steps: %d", steps, got)
		}
	}
	m := api.Model{Scope: scope(3, 2), Loop: 1, States: [][]api.Rel{{rel(1, 1), rel(1, 0, 1)}, {rel(1, 0), rel(1, 0, 1)}, {rel(1, 0, 1), rel(1, 0, 1)}}}
	values, ok := lasso.Encode(sp, scope(3, 2), b, m)
	if bits(values) != "010"+"011"+"10"+"11" || !ok {
		t.Error(bits(values), ok)
	}
	m.Loop = 0
	if values, _ := lasso.Encode(sp, scope(3, 2), b, m); bits(values[:3]) != "001" {
		t.Error(bits(values))
	}
	one := api.Spec{Sorts: sp.Sorts, Fields: sp.Fields[:1]}
	m = api.Model{Scope: scope(2, 2), Loop: 0, States: [][]api.Rel{{rel(1, 1)}, {rel(1, 0)}}}
	if values, ok := lasso.Encode(one, scope(2, 2), b[:1], m); bits(values) != "010110" || !ok {
		t.Error(bits(values))
	}
}

// P18.1: models that have no encoding.
func TestEncodeErrors(t *testing.T) {
	sp := spec(t, "sort A; var field f: A; field g: A;")
	b := []api.Bound{{Lower: rel(1, 1), Upper: rel(1, 0, 1)}, {Lower: rel(1), Upper: rel(1, 0)}}
	good := func() api.Model {
		return api.Model{Scope: scope(2, 2), Loop: 1, States: [][]api.Rel{{rel(1, 1), rel(1, 0)}, {rel(1, 0, 1), rel(1, 0)}}}
	}
	if values, ok := lasso.Encode(sp, scope(2, 2), b, good()); !ok || bits(values) != "10"+"01"+"1" {
		t.Error(bits(values), ok)
	}
	for i, change := range []func(m *api.Model){
		func(m *api.Model) { m.Scope.Atoms[0] = 3 },
		func(m *api.Model) { m.Scope.Steps, m.States = 1, m.States[:1]; m.Loop = 0 },
		func(m *api.Model) { m.Loop = 2 },
		func(m *api.Model) { m.States[1][0] = rel(1, 0) },
		func(m *api.Model) { m.States[0][1], m.States[1][1] = rel(1, 1), rel(1, 1) },
		func(m *api.Model) { m.States[1][1] = rel(1) },
	} {
		m := good()
		change(&m)
		if values, ok := lasso.Encode(sp, scope(2, 2), b, m); ok || values != nil {
			t.Errorf("change %d: %s", i, bits(values))
		}
	}
}

// P18.1: assignments that select no loop, or several, or are too short or too long.
func TestDecode(t *testing.T) {
	sp := spec(t, "sort A; var field f: A;")
	b := []api.Bound{{Lower: rel(1, 1), Upper: rel(1, 0, 1)}}
	for _, x := range []struct {
		values []bool
		loop   int
		want   [][]api.Rel
	}{
		{nil, 0, [][]api.Rel{{rel(1, 1)}, {rel(1, 1)}, {rel(1, 1)}}}, {[]bool{true, true, false, true}, 1, [][]api.Rel{{rel(1, 0, 1)}, {rel(1, 1)}, {rel(1, 1)}}},
		{[]bool{true, false, false, false, false, true, true}, 2, [][]api.Rel{{rel(1, 1)}, {rel(1, 1)}, {rel(1, 0, 1)}}}, {[]bool{true, true, true}, 0, [][]api.Rel{{rel(1, 1)}, {rel(1, 1)}, {rel(1, 1)}}},
	} {
		got := lasso.Decode(sp, scope(3, 2), b, x.values)
		if !model.Equal(got, api.Model{Scope: scope(3, 2), Loop: x.loop, States: x.want}) {
			t.Errorf("Decode(%s) = %v", bits(x.values), got)
		}
	}
	fixed := spec(t, "sort A; field f: A;")
	got := lasso.Decode(fixed, scope(2, 2), b, []bool{false, false, true})
	if !model.Equal(got, api.Model{Scope: scope(2, 2), States: [][]api.Rel{{rel(1, 0, 1)}, {rel(1, 0, 1)}}}) {
		t.Error(got)
	}
	got.States[0][0].Tuples[0] = 7
	if got.States[1][0].Tuples[0] != 0 {
		t.Error("states share memory")
	}
}

// P18.1: matrices of states, in a circuit that has gates already.
func TestStates(t *testing.T) {
	sp := spec(t, "sort A; var field f: A; field g: A;")
	b := []api.Bound{{Lower: rel(1, 1), Upper: rel(1, 0, 1)}, {Lower: rel(1), Upper: rel(1, 0)}}
	c, _ := circuit.Input(circuit.New(), 3)
	d, states := lasso.States(sp, scope(2, 2), b, c)
	want := []api.Gate{{}, {Kind: 1, A: 3}, {Kind: 1, A: 1}, {Kind: 1, A: 2}, {Kind: 1, A: 4}, {Kind: 1, A: 5}}
	if !slices.Equal(d.Gates, want) {
		t.Error(d)
	}
	cell := func(rank, ref int) api.Cell { return api.Cell{Rank: rank, Ref: ref} }
	g := api.Matrix{Arity: 1, Cells: []api.Cell{cell(0, 8)}}
	if !reflect.DeepEqual(states, [][]api.Matrix{{{Arity: 1, Cells: []api.Cell{cell(0, 2), cell(1, 0)}}, g}, {{Arity: 1, Cells: []api.Cell{cell(0, 10), cell(1, 0)}}, g}}) {
		t.Error(states)
	}
}

// P18.1: errors of problems, in their order.
func TestErrors(t *testing.T) {
	sp := spec(t, "sort A; field f: A -> A; pred p[x: A] { true } fact a { p[A] }")
	sc := scope(1, 2)
	for in, want := range map[string]api.Errno{"true": 0, "some nothing": 40, "p[]": 45, "f in A": 42, "p[A]": 0} {
		c, r, e := lasso.Problem(sp, sc, bounds.Default(sp, sc), formula(t, in))
		if e != want || e != api.OK && (r != 0 || len(c.Gates) != 0) {
			t.Errorf("%s: %d, %d", in, r, e)
		}
	}
	wide := spec(t, "sort A; sort B; sort C; field f: A -> B -> C; var field g: A -> B -> C;")
	many := scope(4, 5, 5, 2)
	if n := lasso.Inputs(wide, many, bounds.Default(wide, many)); n != 4+50+50*4 {
		t.Error(n)
	}
	more := spec(t, "sort A; sort B; var field f: A -> A -> A; var field g: A -> A -> B;")
	many = scope(4, 5, 5)
	if n := lasso.Inputs(more, many, bounds.Default(more, many)); n != 1004 {
		t.Error(n)
	}
	if _, _, e := lasso.Problem(more, many, bounds.Default(more, many), formula(t, "some nothing")); e != api.ErrLimit {
		t.Errorf("1004 variables: %d", e)
	}
	b := bounds.Default(more, many)
	b[0].Upper.Tuples = b[0].Upper.Tuples[1:]
	if _, _, e := lasso.Problem(more, many, b, formula(t, "true")); e != api.OK || lasso.Inputs(more, many, b) != 1000 {
		t.Errorf("1000 variables: %d", e)
	}
	if _, _, e := lasso.Problem(more, many, b, formula(t, "some nothing")); e != api.ErrName {
		t.Errorf("1000 variables: %d", e)
	}
	if c, r, e := lasso.Problem(more, scope(1, 5, 5), bounds.Default(more, scope(1, 5, 5)), formula(t, "#(f - g) = #(g - f) + 1")); e != api.ErrLimit || r != 0 || len(c.Gates) != 0 {
		t.Errorf("a formula that is too large: %d", e)
	}
	if n := lasso.Inputs(sp, sc, nil); n != 0 {
		t.Errorf("bounds of other fields: %d", n)
	}
}

// next adds one to an assignment in lexicographic order; it is false after the last one.
func next(values []bool) bool {
	for i := len(values) - 1; i >= 0; i-- {
		values[i] = !values[i]
		if values[i] {
			return true
		}
	}
	return false
}

// oneLoop reports whether an assignment selects exactly one loop.
func oneLoop(sc api.Scope, values []bool) bool {
	selected := 0
	for _, v := range values[:sc.Steps] {
		if v {
			selected++
		}
	}
	return selected == 1
}

// order compares models by Loop, and then state by state by free tuples.
func order(b []api.Bound, x, y api.Model) int {
	if x.Loop != y.Loop {
		return x.Loop - y.Loop
	}
	for i := range x.States {
		for _, at := range bounds.Free(b) {
			inX, inY := slices.Contains(x.States[i][at[0]].Tuples, at[1]), slices.Contains(y.States[i][at[0]].Tuples, at[1])
			if inX != inY {
				return map[bool]int{true: 1, false: -1}[inX]
			}
		}
	}
	return 0
}

// P18.1 to P18.6 under all assignments of sampled problems.
func TestRandom(t *testing.T) {
	s := sample.New(1)
	for range 150 {
		sp := s.Spec(sample.Small)
		sc := s.Scope(sp, 2, 3)
		b := s.Bounds(sp, sc, 6)
		f, g := s.Formula(sp, nil, 3, true), s.Formula(sp, nil, 3, true)
		c, r, e := lasso.Problem(sp, sc, b, f)
		cg, rg, eg := lasso.Problem(sp, sc, b, g)
		ca, ra, ea := lasso.Problem(sp, sc, b, api.Node{Op: api.OpAnd, Kids: []api.Node{f, g}})
		cn, rn, en := lasso.Problem(sp, sc, b, api.Node{Op: api.OpNot, Kids: []api.Node{f}})
		ct, rt, et := lasso.Problem(sp, sc, b, api.Node{Op: api.OpTrue})
		if e != api.OK || eg != api.OK || ea != api.OK || en != api.OK || et != api.OK {
			t.Fatalf("%s%s: %d", printer.Spec(sp), printer.Formula(f), e)
		}
		if !circuit.Valid(c) || r < 0 || r >= 2*len(c.Gates) || !inputsBelow(c, lasso.Inputs(sp, sc, b)) {
			t.Fatalf("%s: %v", printer.Formula(f), c)
		}
		values := make([]bool, lasso.Inputs(sp, sc, b))
		var last api.Model
		for more, first := true, true; more; more = next(values) {
			m := lasso.Decode(sp, sc, b, values)
			single := sc.Steps == 1 || oneLoop(sc, values)
			checkModel(t, sp, sc, b, values, m, single)
			holds, err := eval.Holds(sp, m, f)
			if err != api.OK || circuit.Eval(c, values, r) != (single && holds) {
				t.Fatalf("%s%s, %s: %t, %d", printer.Spec(sp), printer.Formula(f), bits(values), holds, err)
			}
			if circuit.Eval(ca, values, ra) != (circuit.Eval(c, values, r) && circuit.Eval(cg, values, rg)) || circuit.Eval(cn, values, rn) != (circuit.Eval(ct, values, rt) && !circuit.Eval(c, values, r)) {
				t.Fatalf("connectives of %s and %s", printer.Formula(f), printer.Formula(g))
			}
			if single {
				if !first && order(b, last, m) >= 0 {
					t.Fatalf("%v comes before %v", last, m)
				}
				last, first = m, false
			}
		}
	}
}

// P18.1, P18.3: formulas whose value depends on the loop.
func TestLoops(t *testing.T) {
	sp := spec(t, "sort A; var field f: A; fact a { always lone f }")
	for steps := 2; steps <= 4; steps++ {
		sc := scope(steps, 1)
		b := bounds.Default(sp, sc)
		for _, in := range []string{"always f in f'", "after after after after some f", "always (some f => no f')", "after after after no f => always some f'", "after after (some f until no f')", "eventually always some f"} {
			n := formula(t, in)
			c, r, e := lasso.Problem(sp, sc, b, n)
			if e != api.OK {
				t.Fatalf("%s: %d", in, e)
			}
			values := make([]bool, lasso.Inputs(sp, sc, b))
			for more := true; more; more = next(values) {
				holds, _ := eval.Holds(sp, lasso.Decode(sp, sc, b, values), n)
				if circuit.Eval(c, values, r) != (oneLoop(sc, values) && holds) {
					t.Fatalf("%s in %d steps, %s: %t", in, steps, bits(values), holds)
				}
			}
		}
	}
}

// inputsBelow reports whether the variables of a circuit are at most n.
func inputsBelow(c api.Circuit, n int) bool {
	return !slices.ContainsFunc(c.Gates, func(g api.Gate) bool { return g.Kind == api.GateInput && g.A > n })
}

// checkModel checks the model of an assignment, its encoding, and the values of the matrices.
func checkModel(t *testing.T, sp api.Spec, sc api.Scope, b []api.Bound, values []bool, m api.Model, single bool) {
	t.Helper()
	if !model.Valid(sp, m) || !bounds.Contains(b, m) {
		t.Fatalf("Decode(%s) = %v", bits(values), m)
	}
	again, ok := lasso.Encode(sp, sc, b, m)
	if !ok || slices.Equal(again, values) != single || !model.Equal(lasso.Decode(sp, sc, b, again), m) {
		t.Fatalf("Encode(%v) = %s, not %s", m, bits(again), bits(values))
	}
	c, states := lasso.States(sp, sc, b, circuit.New())
	for i, state := range states {
		for j, a := range state {
			if !matrix.Valid(c, a) || !relation.Equal(matrix.Value(c, a, values), m.States[i][j]) {
				t.Fatalf("state %d, field %d: %v", i, j, a)
			}
		}
	}
}

// R2: small problems do not exceed the limits.
func TestSmallProblems(t *testing.T) {
	s := sample.New(2)
	most := 0
	for range 1500 {
		sp := s.Spec(sample.Size{Sorts: 2, Fields: 2, Arity: 3, Facts: 3, Levels: 4, Temporal: true})
		sc := s.Scope(sp, 3, 2)
		total := 0
		for _, size := range sc.Atoms {
			total += size
		}
		b := s.Bounds(sp, sc, 8)
		n := s.Formula(sp, nil, 4, true)
		small := total <= 3 && lasso.Inputs(sp, sc, b) <= 10 && sample.Count(n) <= 8
		for _, f := range sp.Facts {
			small = small && sample.Count(f.Body) <= 8
		}
		if !small {
			continue
		}
		c, _, e := lasso.Problem(sp, sc, b, n)
		if e != api.OK {
			t.Fatalf("%s%s: %d", printer.Spec(sp), printer.Formula(n), e)
		}
		most = max(most, len(c.Gates))
	}
	t.Logf("at most %d gates", most)
}
