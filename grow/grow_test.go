package grow_test

import (
	"reflect"
	"slices"
	"testing"

	"armature/api"
	"armature/bounds"
	"armature/brute"
	"armature/eval"
	"armature/grow"
	"armature/model"
	"armature/parser"
	"armature/printer"
	"armature/relation"
	"armature/sample"
	"armature/universe"
)

func spec(t *testing.T, text string) api.Spec {
	t.Helper()
	sp, d := parser.Parse(text)
	if len(d) > 0 {
		t.Fatalf("%q: %v", text, d)
	}
	return sp
}

func formula(t *testing.T, text string) api.Node {
	t.Helper()
	n, d := parser.ParseFormula(text)
	if len(d) > 0 {
		t.Fatalf("%q: %v", text, d)
	}
	return n
}

func rel(arity int, tuples ...int) api.Rel { return api.Rel{Arity: arity, Tuples: tuples} }

func scope(steps int, atoms ...int) api.Scope { return api.Scope{Atoms: atoms, Steps: steps} }

// start returns a new search.
func start(t *testing.T, sp api.Spec, n api.Node) *grow.Search {
	t.Helper()
	s, e := grow.New(sp, n)
	if e != api.OK {
		t.Fatalf("%s: %d", printer.Formula(n), e)
	}
	return s
}

// P31.1: the examples of the chapter.
func TestExamples(t *testing.T) {
	sp := spec(t, "sort A; field f: A;")
	s := start(t, sp, formula(t, "some x: A | some y: A | not x = y"))
	if !reflect.DeepEqual(s.Model(), api.Model{}) || s.Kept() != 0 {
		t.Error("before the first call")
	}
	if got, e := s.Grow(scope(1, 1)); got != api.Unsat || e != api.OK || !reflect.DeepEqual(s.Model(), api.Model{}) || s.Kept() != 0 {
		t.Error(got, e)
	}
	if got, e := s.Grow(scope(1, 2)); got != api.Sat || e != api.OK || !model.Equal(s.Model(), api.Model{Scope: scope(1, 2), States: [][]api.Rel{{rel(1)}}}) {
		t.Error(got, e)
	}
	s = start(t, sp, formula(t, "some f"))
	want := api.Model{Scope: scope(1, 2), States: [][]api.Rel{{rel(1, 1)}}}
	if got, e := s.Grow(scope(1, 2)); got != api.Sat || e != api.OK || !model.Equal(s.Model(), want) {
		t.Error(got, e)
	}
	if got, e := s.Grow(scope(1, 1)); got != api.Unknown || e != api.ErrScope || !model.Equal(s.Model(), want) {
		t.Error(got, e)
	}
}

// P31.1, P31.3: errors, which leave the search as it was.
func TestErrors(t *testing.T) {
	sp := spec(t, "sort A; sort B; field f: A -> B; fact a { some f }")
	for in, want := range map[string]api.Errno{"some nothing": 40, "f in A": 42} {
		if s, e := grow.New(sp, formula(t, in)); s != nil || e != want {
			t.Errorf("%s: %d", in, e)
		}
	}
	if s, e := grow.New(sp, api.Node{Op: api.OpUniv}); s != nil || e != api.ErrKind {
		t.Errorf("a relation: %d", e)
	}
	if s, e := grow.New(spec(t, "sort A; sort A; fact a { some nothing }"), formula(t, "some nothing")); s != nil || e != api.ErrDuplicate {
		t.Errorf("a specification with diagnostics: %d", e)
	}
	s := start(t, sp, formula(t, "one f"))
	for _, sc := range []api.Scope{scope(1, 1), scope(0, 1, 1), scope(5, 1, 1), scope(1, 6, 1), scope(1, 0, 1), scope(1, 1, 1, 1), {}} {
		if got, e := s.Grow(sc); got != api.Unknown || e != api.ErrScope {
			t.Errorf("%v: %d, %d", sc, got, e)
		}
	}
	if got, e := s.Grow(scope(2, 2, 2)); got != api.Sat || e != api.OK {
		t.Fatal(got, e)
	}
	m, kept := s.Model(), s.Kept()
	for _, sc := range []api.Scope{scope(1, 2, 2), scope(2, 1, 3), scope(2, 3, 1), scope(2, 6, 2)} {
		if got, e := s.Grow(sc); got != api.Unknown || e != api.ErrScope || !model.Equal(s.Model(), m) || s.Kept() != kept {
			t.Errorf("%v: %d, %d", sc, got, e)
		}
	}
	if got, e := s.Grow(scope(2, 2, 2)); got != api.Sat || e != api.OK || !model.Equal(s.Model(), m) {
		t.Error(got, e)
	}
	s.Model().States[0][0].Tuples[0] = 99
	if !model.Equal(s.Model(), m) {
		t.Error("Model shares memory")
	}
	wide := spec(t, "sort A; sort B; var field f: A -> A -> A; var field g: A -> A -> B;")
	s = start(t, wide, formula(t, "some f"))
	if got, e := s.Grow(scope(4, 5, 5)); got != api.Unknown || e != api.ErrLimit {
		t.Errorf("too large: %d, %d", got, e)
	}
	if got, e := s.Grow(scope(1, 1, 1)); got != api.Sat || e != api.OK {
		t.Errorf("after a failure: %d, %d", got, e)
	}
	long := spec(t, "sort A; pred p[] { "+balanced("some A", 64)+" }")
	if s, e := grow.New(long, formula(t, balanced("p[]", 8))); e != api.OK {
		t.Error(e)
	} else if got, e := s.Grow(scope(1, 1)); got != api.Unknown || e != api.ErrLimit {
		t.Errorf("an expansion that is too large: %d, %d", got, e)
	}
}

// balanced returns a conjunction of copies of a formula.
func balanced(text string, n int) string {
	if n == 1 {
		return text
	}
	return "(" + balanced(text, n/2) + " && " + balanced(text, n-n/2) + ")"
}

// P31.1, P31.2, P31.3 against fresh and exhaustive searches.
func TestRandom(t *testing.T) {
	s := sample.New(1)
	kept, outcomes := 0, map[int]int{}
	for range 300 {
		sp := s.Spec(sample.Small)
		n := s.Formula(sp, nil, 4, true)
		search := start(t, sp, n)
		sc := scope(1)
		for range sp.Sorts {
			sc.Atoms = append(sc.Atoms, 1)
		}
		for calls := range 4 {
			got, e := search.Grow(sc)
			if e != api.OK {
				t.Fatalf("%s%s: %d", printer.Spec(sp), printer.Formula(n), e)
			}
			outcomes[got]++
			fresh := start(t, sp, n)
			if other, e := fresh.Grow(sc); e != api.OK || other != got || !model.Equal(fresh.Model(), search.Model()) || fresh.Kept() != 0 || search.Kept() < 0 || calls == 0 && search.Kept() != 0 {
				t.Fatalf("%s%s in %v: %d and %d", printer.Spec(sp), printer.Formula(n), sc, got, other)
			}
			kept += search.Kept()
			if models, e := brute.Models(sp, sc, bounds.Default(sp, sc), n); e == api.OK && (got == api.Sat) != (len(models) > 0) || e == api.OK && got == api.Sat && !model.Equal(models[0], search.Model()) {
				t.Fatalf("%s%s in %v: %d, %v", printer.Spec(sp), printer.Formula(n), sc, got, search.Model())
			}
			search.Grow(scope(1, 7))
			sc = api.Scope{Atoms: slices.Clone(sc.Atoms), Steps: sc.Steps}
			if i := s.Below(len(sc.Atoms) + 1); i < len(sc.Atoms) && sc.Atoms[i] < 3 {
				sc.Atoms[i]++
			} else if sc.Steps < 3 {
				sc.Steps++
			}
		}
	}
	if kept == 0 || outcomes[api.Sat] < 100 || outcomes[api.Unsat] < 100 {
		t.Errorf("%d clauses kept, outcomes %v", kept, outcomes)
	}
}

// P31.4, P31.5: embeddings.
func TestEmbed(t *testing.T) {
	sp := spec(t, "sort A; sort B; field f: A -> B;")
	m := api.Model{Scope: scope(1, 1, 2), States: [][]api.Rel{{rel(2, 1, 2)}}}
	if got := grow.Embed(sp, m, scope(4, 3, 2)); !model.Equal(got, api.Model{Scope: scope(1, 3, 2), States: [][]api.Rel{{rel(2, 3, 4)}}}) {
		t.Error(got)
	}
	if got := grow.Embed(sp, m, scope(1)); !model.Equal(got, api.Model{}) && len(got.States) == 0 {
		t.Error(got)
	}
	s := sample.New(2)
	for range 400 {
		sp := s.Spec(sample.Size{Sorts: 3, Fields: 3, Arity: 3, Temporal: true})
		sc := s.Scope(sp, 2, 3)
		m := s.Model(sp, sc, bounds.Default(sp, sc))
		second, third := wider(s, sc), scope(0)
		third = wider(s, second)
		got := grow.Embed(sp, m, second)
		if !model.Valid(sp, got) || !model.Equal(grow.Embed(sp, m, sc), m) || !model.Equal(grow.Embed(sp, got, third), grow.Embed(sp, m, third)) || got.Scope.Steps != sc.Steps || got.Loop != m.Loop {
			t.Fatalf("%v: %v", m, got)
		}
		for i, state := range m.States {
			for j, r := range state {
				if len(r.Tuples) != len(got.States[i][j].Tuples) {
					t.Fatalf("%v: %v", m, got)
				}
			}
		}
		checkExpression(t, s, sp, m, got)
	}
}

// wider returns a scope that is at least another one.
func wider(s *sample.Source, sc api.Scope) api.Scope {
	out := api.Scope{Steps: s.Between(1, 4)}
	for _, size := range sc.Atoms {
		out.Atoms = append(out.Atoms, size+s.Below(2))
	}
	return out
}

// checkExpression checks P31.5.
func checkExpression(t *testing.T, s *sample.Source, sp api.Spec, m, embedded api.Model) {
	t.Helper()
	n, arity := expression(s, sp, 4)
	state := s.Below(len(m.States))
	small, e1 := eval.Expr(sp, m, state, nil, n)
	large, e2 := eval.Expr(sp, embedded, state, nil, n)
	if e1 != e2 {
		t.Fatalf("%s: %d, %d", printer.Formula(n), e1, e2)
	}
	var want []int
	for _, rank := range small.Tuples {
		tuple := universe.Tuple(m.Scope, arity, rank)
		for i, atom := range tuple {
			sort := universe.SortOf(m.Scope, atom)
			tuple[i] += universe.First(embedded.Scope, sort) - universe.First(m.Scope, sort)
		}
		want = append(want, universe.Rank(embedded.Scope, tuple))
	}
	if e1 == api.OK && !relation.Equal(large, rel(arity, want...)) {
		t.Fatalf("%s: %v, not %v", printer.Formula(n), large, want)
	}
}

// expression returns an expression of fields with the operators of P31.5, and its arity.
func expression(s *sample.Source, sp api.Spec, levels int) (api.Node, int) {
	f := sample.Pick(s, sp.Fields)
	leaf := api.Node{Op: api.OpName, Name: f.Name}
	if levels < 2 || s.Chance(20) {
		return leaf, len(f.Sorts)
	}
	a, x := expression(s, sp, levels-1)
	b, y := expression(s, sp, levels-1)
	pair := func(op int) api.Node { return api.Node{Op: op, Kids: []api.Node{a, b}} }
	switch {
	case s.Chance(20):
		return api.Node{Op: api.OpPrime, Kids: []api.Node{a}}, x
	case x == 2 && s.Chance(40):
		return api.Node{Op: sample.Pick(s, []int{api.OpTranspose, api.OpClosure}), Kids: []api.Node{a}}, 2
	case x == y && s.Chance(70):
		return pair(sample.Pick(s, []int{api.OpUnion, api.OpInter, api.OpDiff, api.OpOverride})), x
	case x+y > 2 && x+y < 6 && s.Chance(60):
		return pair(api.OpJoin), x + y - 2
	case x+y <= 3:
		return pair(api.OpProduct), x + y
	}
	return a, x
}

// P31.6: universal formulas without a model have none in greater scopes.
func TestUniversal(t *testing.T) {
	s := sample.New(3)
	unsat := 0
	for range 300 {
		sp := spec(t, "sort A; field f: A; field g: A -> A; field h: A;")
		name := func(x string) api.Node { return api.Node{Op: api.OpName, Name: x} }
		test := func() api.Node {
			x := sample.Pick(s, []string{"x", "y"})
			n := api.Node{Op: api.OpIn, Kids: []api.Node{name(x), name(sample.Pick(s, []string{"f", "h"}))}}
			if s.Chance(40) {
				pair := api.Node{Op: api.OpProduct, Kids: []api.Node{name(x), name("y")}}
				n = api.Node{Op: api.OpIn, Kids: []api.Node{pair, name("g")}}
			}
			if s.Chance(50) {
				n = api.Node{Op: api.OpNot, Kids: []api.Node{n}}
			}
			return n
		}
		n := test()
		for range s.Between(3, 6) {
			n = api.Node{Op: sample.Pick(s, []int{api.OpAnd, api.OpAnd, api.OpOr, api.OpIff}), Kids: []api.Node{n, test()}}
		}
		for _, x := range []string{"y", "x"} {
			n = api.Node{Op: api.OpAll, Name: x, Kids: []api.Node{name("A"), n}}
		}
		search := start(t, sp, n)
		before := api.Sat
		for atoms := 1; atoms <= 3; atoms++ {
			got, e := search.Grow(scope(1, atoms))
			if e != api.OK || before == api.Unsat && got == api.Sat {
				t.Fatalf("%s with %d atoms: %d, %d", printer.Formula(n), atoms, got, e)
			}
			before = got
		}
		if before == api.Unsat {
			unsat++
		}
	}
	if unsat < 20 {
		t.Error(unsat)
	}
}
