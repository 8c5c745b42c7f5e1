package compile_test

import (
	"reflect"
	"slices"
	"strings"
	"testing"

	"armature/api"
	"armature/circuit"
	"armature/closure"
	"armature/compile"
	"armature/count"
	"armature/eval"
	"armature/matrix"
	"armature/parser"
	"armature/printer"
	"armature/relation"
	"armature/sample"
	"armature/typing"
	"armature/universe"
)

func spec(t *testing.T, text string) api.Spec {
	t.Helper()
	sp, d := parser.Parse(text)
	if len(d) > 0 {
		t.Fatalf("%q: %v", text, d)
	}
	return sp
}

func formula(t *testing.T, text string) api.Node {
	t.Helper()
	n, d := parser.ParseFormula(text)
	if len(d) > 0 {
		t.Fatalf("%q: %v", text, d)
	}
	return n
}

// mat returns a matrix with ranks and references in turn.
func mat(arity int, l ...int) api.Matrix {
	m := api.Matrix{Arity: arity}
	for i := 0; i < len(l); i += 2 {
		m.Cells = append(m.Cells, api.Cell{Rank: l[i], Ref: l[i+1]})
	}
	return m
}

func scope(steps int, atoms ...int) api.Scope { return api.Scope{Atoms: atoms, Steps: steps} }

// P17.1: the examples of the chapter.
func TestExamples(t *testing.T) {
	sp := spec(t, "sort A; field f: A;")
	c := sample.New(0).Circuit(1, 0)
	for in, want := range map[string]api.Ref{"true": 0, "false": 1, "false until true": 0, "some univ": 0, "no f": 3, "#f < 1": 3, "some f": 2, "one f": 2, "lone f": 0, "f in A": 0, "A in f": 1, "f = f": 0, "f in none": 3, "not no f": 2} {
		d, r, e := compile.Formula(sp, scope(1, 2), [][]api.Matrix{{mat(1, 0, 2)}}, 0, 0, nil, c, formula(t, in))
		if r != want || e != api.OK || len(d.Gates) != 2 {
			t.Errorf("%s: %d, %d, %v", in, r, e, d)
		}
	}
}

// P17.1: matrices are those of the operations of the layers below, and states, bindings and names are those of package eval.
func TestExpressions(t *testing.T) {
	sp := spec(t, "sort A; sort B ordered; var field f: A -> A; var field g: A -> A; field u: A;")
	c := sample.New(0).Circuit(8, 0)
	f, g, f2, g2, u := mat(2, 1, 2, 5, 4), mat(2, 1, 6, 6, 8), mat(2, 0, 10), mat(2, 5, 12), mat(1, 0, 14, 1, 16)
	states := [][]api.Matrix{{f, g, u}, {f2, g2, u}}
	sc := scope(2, 2, 3)
	pair := func(d api.Circuit, m api.Matrix) [2]any { return [2]any{d.Gates, m} }
	env := []api.Binding{{Name: "x", Atom: 4}, {Name: "x", Atom: 1}, {Name: "u2", Atom: 3}}
	fu := func(c api.Circuit) [2]any { d, m := matrix.Join(c, 5, u, f); return pair(d, m) }
	closed, m := closure.Smaller(c, 5, f)
	for _, x := range []struct {
		in    string
		state int
		want  [2]any
	}{
		{"f", 0, pair(c, f)}, {"f", 1, pair(c, f2)}, {"f'", 0, pair(c, f2)}, {"f'", 1, pair(c, f2)}, {"f + g", 0, pair(matrix.Union(c, f, g))}, {"f & g", 0, pair(matrix.Inter(c, f, g))}, {"f - g", 0, pair(matrix.Diff(c, f, g))},
		{"f ++ g", 0, pair(matrix.Override(c, 5, f, g))}, {"f . g", 0, pair(matrix.Join(c, 5, f, g))}, {"u -> f", 0, pair(matrix.Product(c, 5, u, f))}, {"~f", 0, pair(c, matrix.Transpose(5, f))}, {"u . f", 0, fu(c)},
		{"^f", 0, pair(closed, m)}, {"*f", 0, pair(matrix.Union(closed, m, mat(2, 0, 0, 6, 0, 12, 0, 18, 0, 24, 0)))}, {"univ", 0, pair(c, mat(1, 0, 0, 1, 0, 2, 0, 3, 0, 4, 0))}, {"none[3]", 0, pair(c, mat(3))},
		{"iden", 0, pair(c, mat(2, 0, 0, 6, 0, 12, 0, 18, 0, 24, 0))}, {"A", 0, pair(c, mat(1, 0, 0, 1, 0))}, {"B_first", 0, pair(c, mat(1, 2, 0))}, {"B_next", 0, pair(c, mat(2, 13, 0, 19, 0))}, {"x", 0, pair(c, mat(1, 1, 0))},
		{"{y: u | true}", 0, pair(c, u)}, {"{y: A | y in u}", 0, pair(c, u)}, {"{y: u | false}", 0, pair(c, mat(1))}, {"{y: u | y = x}", 0, pair(c, mat(1, 1, 16))},
	} {
		d, m, e := compile.Expr(sp, sc, states, 1, x.state, env, c, formula(t, "no "+x.in).Kids[0])
		if e != api.OK || !reflect.DeepEqual(pair(d, m), x.want) && (len(m.Cells) > 0 || len(x.want[1].(api.Matrix).Cells) > 0) {
			t.Errorf("%s in state %d: %v, %d", x.in, x.state, m, e)
		}
	}
	f.Cells[0].Ref = 2
	_, m, _ = compile.Expr(sp, sc, states, 1, 0, env, c, formula(t, "no f").Kids[0])
	m.Cells[0].Ref = 9
	if f.Cells[0].Ref != 2 {
		t.Error("Expr shares memory")
	}
}

// P17.1, P17.2: errors, which leave the circuit as it was.
func TestErrors(t *testing.T) {
	sp := spec(t, "sort A; sort B; sort C ordered; field f: A -> A; field g: A; field g: B; pred p[x: A] { true }")
	sp.Fields[1].Name, sp.Fields = "u", append(sp.Fields, api.Field{Name: "B", Sorts: []int{0}})
	c := sample.New(0).Circuit(2, 0)
	states := [][]api.Matrix{{mat(2, 1, 2), mat(1, 0, 2, 1, 4), mat(1, 2, 4), mat(1)}}
	sc := scope(1, 2, 1, 1)
	for in, want := range map[string]api.Errno{"some B": 44, "some nothing": 40, "some f + u": 42, "some f & u": 42, "some f - u": 42, "some f ++ u": 42, "f in u": 42, "f = u": 42, "some ~u": 42, "some ^u": 42, "some *u": 42, "some u . u": 42,
		"some (f -> u) -> u": 42, "some (f -> u) . (f -> u)": 42, "some (f -> u) . f": 0, "some A_first": 40, "some A_next": 40, "some C_last": 40, "some C_first": 0, "some f . f . f . (f -> u)": 0, "all x: f | some nothing": 42, "no {x: f | true}": 42, "all x: u | some nothing": 40, "all x: none | some nothing": 0, "p[u]": 45, "p[nothing]": 40, "some u && p[f + u]": 42,
		"some f + f . f && some nothing": 40, "some u || some u && p[u]": 45} {
		d, r, e := compile.Formula(sp, sc, states, 0, 0, nil, c, formula(t, in))
		if e != want || e != api.OK && (r != 0 || !slices.Equal(d.Gates, c.Gates)) {
			t.Errorf("%s: %d, %d", in, r, e)
		}
	}
	if d, r, e := compile.Formula(sp, sc, states, 0, 0, nil, c, api.Node{Op: api.OpUniv}); e != api.ErrKind || r != 0 || !slices.Equal(d.Gates, c.Gates) {
		t.Errorf("a relation: %d, %d", r, e)
	}
	if d, m, e := compile.Expr(sp, sc, states, 0, 0, nil, c, api.Node{Op: api.OpLit}); e != api.ErrKind || !reflect.DeepEqual(m, api.Matrix{}) || !slices.Equal(d.Gates, c.Gates) {
		t.Errorf("an integer: %v, %d", m, e)
	}
	if d, m, e := compile.Expr(sp, sc, states, 0, 0, nil, c, formula(t, "no (u -> u) + nothing").Kids[0]); e != api.ErrName || !reflect.DeepEqual(m, api.Matrix{}) || !slices.Equal(d.Gates, c.Gates) {
		t.Errorf("an unknown name: %v, %d", m, e)
	}
}

// P17.1: limits of the circuit and of unary numbers.
func TestLimits(t *testing.T) {
	sp := spec(t, "sort A; field u: A; field t: A -> A -> A;")
	c := sample.Full()
	states := [][]api.Matrix{{mat(1, 0, 399, 1, 401), mat(3)}}
	for in, want := range map[string]api.Errno{"some u": 2, "lone u": 2, "one u": 2, "no u": 2, "some u . t": 0, "some u -> u": 2, "#u < 1": 2, "#u < 5": 2, "0 < 1": 0, "A in u": 2, "u in A": 0, "some u && some nothing": 2,
		"some nothing && some u": 40, "all x: u | x in u": 0, "some x: u | true": 2, "all x: u | false": 2, "u = u": 0} {
		if d, _, e := compile.Formula(sp, scope(1, 2), states, 0, 0, nil, c, formula(t, in)); e != want || len(d.Gates) != api.MaxGates {
			t.Errorf("%s: %d", in, e)
		}
	}
	large := api.Matrix{Arity: 3}
	for rank := range 64 {
		large.Cells = append(large.Cells, api.Cell{Rank: rank})
	}
	states = [][]api.Matrix{{mat(1, 0, 0), large}}
	for in, want := range map[string]api.Errno{"#t = 64": 0, "#t + #u = 64 + 1": 2, "#t - #u = 63": 0, "#t = #u": 0, "#t - #u = #u - #t": 2, "#t < 1 - #u": 2, "#t < #u - #t": 2, "#t + 5 - 6 = #t": 0} {
		if _, r, e := compile.Formula(sp, scope(1, 4), states, 0, 0, nil, circuit.New(), formula(t, in)); e != want || e == 0 && r > 1 {
			t.Errorf("%s: %d, %d", in, r, e)
		}
	}
	large.Cells = append(large.Cells, api.Cell{Rank: 64})
	if _, _, e := compile.Formula(sp, scope(1, 5), [][]api.Matrix{{mat(1), large}}, 0, 0, nil, circuit.New(), formula(t, "#t = 1")); e != api.ErrLimit {
		t.Errorf("65 tuples: %d", e)
	}
	if _, r, e := compile.Formula(sp, scope(1, 5), [][]api.Matrix{{mat(1), large}}, 0, 0, nil, circuit.New(), formula(t, "some t")); e != api.OK || r != 0 {
		t.Errorf("65 tuples: %d", e)
	}
}

// P17.1: a cardinality uses the smaller one of the two methods, and the one that is possible.
func TestCounting(t *testing.T) {
	sp := spec(t, "sort A; field f: A -> A;")
	s := sample.New(1)
	for range 100 {
		c := s.Circuit(6, 4)
		m := s.Matrix(c, 3, 2, false)
		var in []api.Ref
		for _, cell := range m.Cells {
			in = append(in, cell.Ref)
		}
		d, sorted := count.Sorter(c, in)
		e, total := count.Totalizer(c, in)
		u, want := sorted, d
		if len(e.Gates) < len(d.Gates) {
			u, want = total, e
		}
		want, r := count.Less(want, u, nil, 2)
		got, q, _ := compile.Formula(sp, scope(1, 3), [][]api.Matrix{{m}}, 0, 0, nil, c, formula(t, "#f < 2"))
		if !slices.Equal(got.Gates, want.Gates) || q != r {
			t.Fatalf("%v: %d gates, not %d", m, len(got.Gates), len(want.Gates))
		}
	}
}

// setting is a sampled problem: matrices whose references depend on some variables.
type setting struct {
	sp     api.Spec
	sc     api.Scope
	c      api.Circuit
	states [][]api.Matrix
	loop   int
	env    []api.Binding
}

const variables = 6

func newSetting(s *sample.Source, constant bool) *setting {
	x := &setting{sp: s.Spec(sample.Size{Sorts: 2, Fields: 3, Arity: 2, Levels: 2, Temporal: true})}
	x.sc = s.Scope(x.sp, 2, 3)
	x.c = s.Circuit(variables, 4)
	x.loop = s.Below(x.sc.Steps)
	n := universe.Atoms(x.sc)
	x.env = []api.Binding{{Name: "x", Atom: s.Below(n)}}
	for range x.sc.Steps {
		var state []api.Matrix
		for _, f := range x.sp.Fields {
			m := s.Matrix(x.c, n, len(f.Sorts), constant)
			full := universe.Full(x.sc, f.Sorts)
			m.Cells = slices.DeleteFunc(m.Cells, func(cell api.Cell) bool { return !slices.Contains(full.Tuples, cell.Rank) })
			state = append(state, m)
		}
		x.states = append(x.states, state)
	}
	return x
}

// model returns the model whose states are the values of the matrices.
func (x *setting) model(values []bool) api.Model {
	m := api.Model{Scope: x.sc, Loop: x.loop}
	for _, state := range x.states {
		var relations []api.Rel
		for _, a := range state {
			relations = append(relations, matrix.Value(x.c, a, values))
		}
		m.States = append(m.States, relations)
	}
	return m
}

// P17.1, P17.2, P17.3, P17.4, P17.7 on sampled problems. Errors of eval are provoked by changing names.
func TestRandom(t *testing.T) {
	s := sample.New(2)
	for range 1200 {
		constant := s.Chance(15)
		x := newSetting(s, constant)
		f := s.Formula(x.sp, []string{"x"}, 4, true)
		r := s.Relation(x.sp, []string{"x"}, s.Between(1, 2), 4, true)
		bad := s.Chance(10)
		if bad {
			f, r = spoil(s, f), spoil(s, r)
		}
		state := s.Below(x.sc.Steps)
		d, ref, e := compile.Formula(x.sp, x.sc, x.states, x.loop, state, x.env, x.c, f)
		d2, m, e2 := compile.Expr(x.sp, x.sc, x.states, x.loop, state, x.env, x.c, r)
		more := append([]api.Binding{{Name: "unused"}}, x.env...)
		d3, ref3, e3 := compile.Formula(x.sp, x.sc, x.states, x.loop, state, more, x.c, f)
		if !slices.Equal(d.Gates, d3.Gates) || ref != ref3 || e != e3 {
			t.Fatalf("%s: a binding that is not used", printer.Formula(f))
		}
		if !circuit.Valid(d) || !slices.Equal(d.Gates[:len(x.c.Gates)], x.c.Gates) || ref < 0 || ref >= 2*len(d.Gates) || !circuit.Valid(d2) || e2 == api.OK && !matrix.Valid(d2, m) {
			t.Fatalf("%s: not an extension", printer.Formula(f))
		}
		if constant && e == api.OK && (len(d.Gates) != len(x.c.Gates) || ref > 1 || len(d2.Gates) != len(x.c.Gates) || slices.ContainsFunc(m.Cells, func(c api.Cell) bool { return c.Ref != 0 })) {
			t.Fatalf("%s: not constant", printer.Formula(f))
		}
		if !bad && (e != api.OK || e2 != api.OK) {
			t.Fatalf("%s, %s: %d, %d", printer.Formula(f), printer.Formula(r), e, e2)
		}
		for range 4 {
			v := s.Values(variables)
			want, err := eval.Formula(x.sp, x.model(v), state, x.env, f)
			if err != api.OK && e == api.OK || e == api.OK && circuit.Eval(d, v, ref) != want {
				t.Fatalf("%s: %t, %d", printer.Formula(f), want, err)
			}
			value, err := eval.Expr(x.sp, x.model(v), state, x.env, r)
			if err != api.OK && e2 == api.OK || e2 == api.OK && !relation.Equal(matrix.Value(d2, m, v), value) {
				t.Fatalf("%s: %v, %d", printer.Formula(r), value, err)
			}
		}
	}
}

// spoil changes the names in a tree so that some denote nothing, or something of another arity.
func spoil(s *sample.Source, n api.Node) api.Node {
	if n.Op == api.OpName && s.Chance(40) {
		n.Name = sample.Pick(s, []string{"nothing", "f", "g", "A"})
	}
	var kids []api.Node
	for _, kid := range n.Kids {
		kids = append(kids, spoil(s, kid))
	}
	n.Kids = kids
	return n
}

// P17.5, P17.6: temporal laws, and specialization to constants.
func TestLaws(t *testing.T) {
	s := sample.New(3)
	node := func(op int, kids ...api.Node) api.Node { return api.Node{Op: op, Kids: kids} }
	for range 300 {
		x := newSetting(s, false)
		f, g := s.Formula(x.sp, []string{"x"}, 3, true), s.Formula(x.sp, []string{"x"}, 3, true)
		state := s.Below(x.sc.Steps)
		value := func(n api.Node, v []bool) bool {
			d, r, e := compile.Formula(x.sp, x.sc, x.states, x.loop, state, x.env, x.c, n)
			if e != api.OK {
				t.Fatalf("%s: %d", printer.Formula(n), e)
			}
			return circuit.Eval(d, v, r)
		}
		v := s.Values(variables)
		for i, law := range [][2]api.Node{
			{node(api.OpAlways, f), node(api.OpAnd, f, node(api.OpAfter, node(api.OpAlways, f)))},
			{node(api.OpEventual, f), node(api.OpOr, f, node(api.OpAfter, node(api.OpEventual, f)))},
			{node(api.OpUntil, f, g), node(api.OpOr, g, node(api.OpAnd, f, node(api.OpAfter, node(api.OpUntil, f, g))))},
		} {
			if value(law[0], v) != value(law[1], v) {
				t.Fatalf("law %d: %s, %s", i, printer.Formula(f), printer.Formula(g))
			}
		}
		want := value(f, v)
		var fixed [][]api.Matrix
		for _, relations := range x.model(v).States {
			var matrices []api.Matrix
			for _, r := range relations {
				matrices = append(matrices, matrix.Const(r))
			}
			fixed = append(fixed, matrices)
		}
		d, r, e := compile.Formula(x.sp, x.sc, fixed, x.loop, state, x.env, circuit.New(), f)
		if e != api.OK || len(d.Gates) != 1 || r != map[bool]api.Ref{true: 0, false: 1}[want] {
			t.Fatalf("%s: %d instead of %t", printer.Formula(f), r, want)
		}
	}
}

// P17.1: integers beyond the range of comparisons.
func TestOffsets(t *testing.T) {
	sp := spec(t, "sort A; field u: A;")
	sum := strings.Repeat("64 + ", 5) + "64"
	states := [][]api.Matrix{{mat(1, 0, 2)}}
	c := sample.New(0).Circuit(1, 0)
	for in, want := range map[string]api.Ref{"#u < " + sum: 0, sum + " < #u": 1, "#u = " + sum: 1, "#u - (" + sum + ") < 0": 0, "#u + " + sum + " = " + sum + " + 1": 2} {
		n := formula(t, in)
		if d := typing.CheckFormula(sp, nil, n); d.Err != api.OK {
			t.Fatal(d)
		}
		if _, r, e := compile.Formula(sp, scope(1, 1), states, 0, 0, nil, c, n); r != want || e != api.OK {
			t.Errorf("%s: %d, %d", in, r, e)
		}
	}
}
