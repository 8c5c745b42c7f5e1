package eval_test

import (
	"reflect"
	"slices"
	"testing"

	"armature/api"
	"armature/eval"
	"armature/model"
	"armature/parser"
	"armature/printer"
	"armature/relation"
	"armature/sample"
	"armature/typing"
	"armature/universe"
)

func spec(t *testing.T, text string) api.Spec {
	t.Helper()
	sp, d := parser.Parse(text)
	if len(d) > 0 {
		t.Fatalf("%q: %v", text, d)
	}
	return sp
}

func formula(t *testing.T, text string) api.Node {
	t.Helper()
	n, d := parser.ParseFormula(text)
	if len(d) > 0 {
		t.Fatalf("%q: %v", text, d)
	}
	return n
}

func rel(arity int, tuples ...int) api.Rel { return api.Rel{Arity: arity, Tuples: tuples} }

const basic = `sort A; sort B ordered; var field f: A -> A; var field g: A; field b: B; field t: A -> B -> A; field A: B; field b: A;
pred p[x: A] { some x }`

// world returns a model of basic: atoms 0, 1 of A and 2, 3, 4 of B; three states; the last one is followed by state 1.
func world() api.Model {
	state := func(f, g api.Rel) []api.Rel {
		return []api.Rel{f, g, rel(1, 2, 3), rel(3, 10, 41), rel(1), rel(1)}
	}
	return api.Model{Scope: api.Scope{Atoms: []int{2, 3}, Steps: 3}, Loop: 1, States: [][]api.Rel{
		state(rel(2, 1), rel(1)), state(rel(2, 1, 5), rel(1, 0)), state(rel(2), rel(1, 0, 1))}}
}

// P8.1: relations, in the given state.
func TestExpr(t *testing.T) {
	sp := spec(t, basic)
	sp.Fields[4].Name, sp.Fields[5].Name = "e", "e2"
	env := []api.Binding{{Name: "x", Atom: 4}, {Name: "x", Atom: 1}, {Name: "g", Atom: 3}}
	for _, x := range []struct {
		in    string
		state int
		want  api.Rel
	}{
		{"A", 0, rel(1, 0, 1)}, {"B", 0, rel(1, 2, 3, 4)}, {"B_first", 0, rel(1, 2)}, {"B_next", 0, rel(2, 13, 19)}, {"f", 0, rel(2, 1)}, {"f", 1, rel(2, 1, 5)},
		{"x", 0, rel(1, 1)}, {"g", 2, rel(1, 3)}, {"g'", 2, rel(1, 3)}, {"f'", 0, rel(2, 1, 5)}, {"f'", 2, rel(2, 1, 5)}, {"f''", 1, rel(2, 1, 5)},
		{"none[2]", 0, rel(2)}, {"univ", 0, rel(1, 0, 1, 2, 3, 4)}, {"iden", 0, rel(2, 0, 6, 12, 18, 24)}, {"f + f'", 0, rel(2, 1, 5)}, {"f & f'", 0, rel(2, 1)}, {"f' - f", 0, rel(2, 5)},
		{"A . f", 1, rel(1, 0, 1)}, {"f . f", 1, rel(2, 0, 6)}, {"A -> b", 0, rel(2, 2, 3, 7, 8)}, {"~f", 0, rel(2, 5)}, {"^f", 1, rel(2, 0, 1, 5, 6)}, {"*f", 0, rel(2, 0, 1, 6, 12, 18, 24)},
		{"f ++ (x -> x)", 1, rel(2, 1, 6)}, {"A . t", 0, rel(2, 10, 16)}, {"{y: A | some y . f}", 0, rel(1, 0)}, {"{y: A | some x . f}", 1, rel(1, 0, 1)}, {"{x: A | x in A . f}", 0, rel(1, 1)}, {"{y: e | some y}", 0, rel(1)},
	} {
		got, e := eval.Expr(sp, world(), x.state, env, formula(t, "no "+x.in).Kids[0])
		if e != api.OK || !relation.Equal(got, x.want) {
			t.Errorf("%s in state %d: %v, %d", x.in, x.state, got, e)
		}
	}
}

// P8.1: integers and formulas.
func TestFormula(t *testing.T) {
	sp := spec(t, basic)
	sp.Fields[4].Name, sp.Fields[5].Name = "e", "e2"
	for _, x := range []struct {
		in    string
		state int
		want  bool
	}{
		{"true", 0, true}, {"false", 0, false}, {"some f.f", 0, false}, {"some f.f", 1, true}, {"no g", 0, true}, {"no g", 1, false}, {"one g", 1, true}, {"one g", 0, false}, {"one g", 2, false},
		{"lone g", 0, true}, {"lone g", 1, true}, {"lone g", 2, false}, {"f in f'", 0, true}, {"f' in f", 0, false}, {"f = f'", 0, false}, {"f = f", 0, true}, {"f != f'", 0, true},
		{"#f = 1", 0, true}, {"#f + #g = 3", 1, true}, {"#f - #g = -2", 2, true}, {"#f < 1", 0, false}, {"#f < 2", 0, true}, {"1 <= #f", 0, true}, {"#*f = 6", 0, true},
		{"not true", 0, false}, {"true && false", 0, false}, {"true && true", 0, true}, {"false || true", 0, true}, {"false || false", 0, false}, {"true => false", 0, false}, {"false => false", 0, true},
		{"false <=> false", 0, true}, {"true <=> false", 0, false}, {"all y: A | lone y.f", 0, true}, {"all y: A | some y.f", 0, false}, {"some y: A | some y.f", 0, true}, {"some y: A | y in y.f", 0, false},
		{"all y: e | false", 0, true}, {"some y: e | true", 0, false}, {"after one g", 0, true}, {"after no g", 2, false}, {"after one g", 2, true},
		{"always some g", 0, false}, {"always some g", 1, true}, {"always one g", 2, false}, {"eventually #g = 2", 0, true}, {"eventually no g", 1, false}, {"eventually no g", 2, false}, {"after always some g", 0, true},
		{"no g until one g", 0, true}, {"no g until #g = 2", 0, false}, {"#g < 2 until #g = 2", 0, true}, {"false until no g", 0, true}, {"some g until no g", 1, false}, {"always eventually one g", 0, true},
		{"always (all y: g | y in A)", 0, true}, {"all y: A | eventually y in g", 0, true}, {"eventually (some y: A | y in g && some y . f')", 0, true},
	} {
		got, e := eval.Formula(sp, world(), x.state, nil, formula(t, x.in))
		if e != api.OK || got != x.want {
			t.Errorf("%s in state %d: %t, %d", x.in, x.state, got, e)
		}
	}
	for text, want := range map[string]int{"7": 7, "-3": -3, "#f": 2, "#f - 1 + #g": 2, "#none[3]": 0} {
		if got, e := eval.Int(sp, world(), 1, nil, formula(t, "0 = "+text).Kids[1]); e != api.OK || got != want {
			t.Errorf("%s: %d, %d", text, got, e)
		}
	}
}

// P8.1: the first error in evaluation order.
func TestErrors(t *testing.T) {
	sp := spec(t, basic)
	for _, x := range []struct {
		in string
		e  api.Errno
	}{
		{"some A", 44}, {"some b", 44}, {"some nothing", 40}, {"some A_first", 40}, {"some A_next", 40}, {"some B_last", 40}, {"some B_", 40}, {"some f + t", 42}, {"some f & g", 42}, {"some f - t", 42}, {"some f ++ g", 42}, {"f in g", 42}, {"f = t", 42}, {"some ~g", 42}, {"some ^t", 42}, {"some *g", 42},
		{"some g . g", 42}, {"some t . t", 42}, {"some t -> g", 42}, {"p[g]", 45}, {"p[nothing]", 40}, {"p[g, b]", 44}, {"false && some nothing", 40}, {"true || some nothing", 40}, {"false => some nothing", 40},
		{"some f + t && some nothing", 42}, {"some nothing && some f + t", 40}, {"some nothing + (f + t)", 40}, {"some (f + t) + nothing", 42}, {"#nothing < #~g", 40}, {"#~g = #nothing", 42},
		{"all y: f | some nothing", 42}, {"no {y: f | some nothing}", 42}, {"all y: none | some nothing", 0}, {"all y: g | some nothing", 0}, {"all y: g' | some nothing", 40}, {"after (all y: g | some nothing)", 40},
		{"always (all y: g | some nothing)", 40}, {"eventually (all y: g | p[y])", 45}, {"(some nothing) until (f in t)", 40}, {"true until (all y: g | some nothing)", 40}, {"(f in t) until true", 42}, {"not p[g]", 45},
		{"all y: B | some y . nothing", 40}, {"all x: B | p[x]", 45},
	} {
		if got, e := eval.Formula(sp, world(), 0, nil, formula(t, x.in)); got && e != api.OK || e != x.e {
			t.Errorf("%s: %d", x.in, e)
		}
	}
	one, none := api.Node{Op: api.OpLit, N: 1}, api.Node{Op: api.OpNone, N: 1}
	if r, e := eval.Expr(sp, world(), 0, nil, one); !reflect.DeepEqual(r, api.Rel{}) || e != api.ErrKind {
		t.Errorf("Expr of an integer: %v, %d", r, e)
	}
	if r, e := eval.Expr(sp, world(), 0, nil, formula(t, "some nothing").Kids[0]); !reflect.DeepEqual(r, api.Rel{}) || e != api.ErrName {
		t.Errorf("Expr of an unknown name: %v, %d", r, e)
	}
	if i, e := eval.Int(sp, world(), 0, nil, none); i != 0 || e != api.ErrKind {
		t.Errorf("Int of a relation: %d, %d", i, e)
	}
	if i, e := eval.Int(sp, world(), 0, nil, formula(t, "1 + #nothing = 2").Kids[0]); i != 0 || e != api.ErrName {
		t.Errorf("Int of an unknown name: %d, %d", i, e)
	}
	if b, e := eval.Formula(sp, world(), 0, nil, none); b || e != api.ErrKind {
		t.Errorf("Formula of a relation: %t, %d", b, e)
	}
}

// P8.1: facts, calls and errors of Holds.
func TestHolds(t *testing.T) {
	m := api.Model{Scope: api.Scope{Atoms: []int{2}, Steps: 1}, States: [][]api.Rel{{rel(1, 0), rel(2, 1)}}}
	head := "sort A; field f: A; field g: A -> A; pred p[x: A] { one x . g } pred q[] { some f } "
	for _, x := range []struct {
		facts, in string
		want      bool
		e         api.Errno
	}{
		{"", "p[f]", true, 0}, {"", "p[A - f]", false, 0}, {"", "all f: A | p[f]", false, 0}, {"fact a { q[] }", "true", true, 0}, {"fact a { not q[] } fact b { true }", "true", false, 0},
		{"fact a { false }", "some nothing", false, 40}, {"fact a { false }", "p[g]", false, 42}, {"fact a { q[] }", "p[]", false, 45}, {"fact a { some A' }", "some A'", true, 0},
	} {
		got, e := eval.Holds(spec(t, head+x.facts), m, formula(t, x.in))
		if got != x.want || e != x.e {
			t.Errorf("%s %s: %t, %d", x.facts, x.in, got, e)
		}
	}
	if b, e := eval.Holds(spec(t, head), m, api.Node{Op: api.OpUniv}); b || e != api.ErrKind {
		t.Errorf("a relation: %t, %d", b, e)
	}
}

// Results share no memory with the model.
func TestMemory(t *testing.T) {
	sp := spec(t, "sort A; field f: A;")
	m := api.Model{Scope: api.Scope{Atoms: []int{2}, Steps: 1}, States: [][]api.Rel{{rel(1, 1)}}}
	r, _ := eval.Expr(sp, m, 0, nil, formula(t, "some f").Kids[0])
	r.Tuples[0] = 0
	if m.States[0][0].Tuples[0] != 1 {
		t.Error("Expr shares memory")
	}
}

// setting is a sampled specification with a model of it.
type setting struct {
	*sample.Source
	sp    api.Spec
	m     api.Model
	state int
	env   []api.Binding
}

func newSetting(s *sample.Source) *setting {
	sp := s.Spec(sample.Size{Sorts: 2, Fields: 3, Arity: 2, Preds: 0, Facts: 0, Levels: 2, Temporal: true})
	sc := s.Scope(sp, 3, 4)
	m := s.Model(sp, sc, s.Bounds(sp, sc, 30))
	return &setting{s, sp, m, s.Below(sc.Steps), []api.Binding{{Name: "x", Atom: s.Below(universe.Atoms(sc))}}}
}

// value evaluates a formula without an error.
func (x *setting) value(t *testing.T, n api.Node, state int, env []api.Binding) bool {
	t.Helper()
	b, e := eval.Formula(x.sp, x.m, state, env, n)
	if e != api.OK {
		t.Fatalf("%s: %d", printer.Formula(n), e)
	}
	return b
}

// relation evaluates an expression without an error.
func (x *setting) relation(t *testing.T, n api.Node, env []api.Binding) api.Rel {
	t.Helper()
	r, e := eval.Expr(x.sp, x.m, x.state, env, n)
	if e != api.OK || !relation.Valid(universe.Atoms(x.m.Scope), r) {
		t.Fatalf("%s: %v, %d", printer.Formula(n), r, e)
	}
	return r
}

func node(op int, kids ...api.Node) api.Node { return api.Node{Op: op, Kids: kids} }

// P8.2, P8.4: dualities and unfoldings.
func TestTemporalLaws(t *testing.T) {
	s := sample.New(1)
	for range 1500 {
		x := newSetting(s)
		f, g := x.Formula(x.sp, []string{"x"}, 3, true), x.Formula(x.sp, []string{"x"}, 3, true)
		r := x.Relation(x.sp, []string{"x"}, 1, 3, true)
		not := func(n api.Node) api.Node { return node(api.OpNot, n) }
		all := api.Node{Op: api.OpAll, Name: "y", Kids: []api.Node{r, f}}
		exists := api.Node{Op: api.OpExists, Name: "y", Kids: []api.Node{r, not(f)}}
		for i, pair := range [][2]api.Node{
			{not(node(api.OpAnd, f, g)), node(api.OpOr, not(f), not(g))}, {not(node(api.OpOr, f, g)), node(api.OpAnd, not(f), not(g))}, {not(all), exists},
			{not(node(api.OpAlways, f)), node(api.OpEventual, not(f))}, {not(node(api.OpSome, r)), node(api.OpNo, r)}, {node(api.OpImplies, f, g), node(api.OpOr, not(f), g)},
			{node(api.OpOne, r), node(api.OpAnd, node(api.OpSome, r), node(api.OpLone, r))}, {node(api.OpIff, f, g), node(api.OpAnd, node(api.OpImplies, f, g), node(api.OpImplies, g, f))},
			{node(api.OpAlways, f), node(api.OpAnd, f, node(api.OpAfter, node(api.OpAlways, f)))}, {node(api.OpEventual, f), node(api.OpOr, f, node(api.OpAfter, node(api.OpEventual, f)))},
			{node(api.OpUntil, f, g), node(api.OpOr, g, node(api.OpAnd, f, node(api.OpAfter, node(api.OpUntil, f, g))))}, {node(api.OpEventual, f), node(api.OpUntil, node(api.OpTrue), f)},
			{node(api.OpAfter, node(api.OpSome, r)), node(api.OpSome, node(api.OpPrime, r))},
		} {
			if x.value(t, pair[0], x.state, x.env) != x.value(t, pair[1], x.state, x.env) {
				t.Fatalf("law %d: %s, %s", i, printer.Formula(f), printer.Formula(g))
			}
		}
		next := model.Next(x.m, x.state)
		if x.value(t, node(api.OpAfter, f), x.state, x.env) != x.value(t, f, next, x.env) {
			t.Fatalf("after %s", printer.Formula(f))
		}
	}
}

// P8.3: values of expressions follow from the values of their parts.
func TestComposition(t *testing.T) {
	s := sample.New(2)
	for range 1000 {
		x := newSetting(s)
		n := universe.Atoms(x.m.Scope)
		a, b := x.Relation(x.sp, []string{"x"}, 2, 3, true), x.Relation(x.sp, []string{"x"}, 2, 3, true)
		ra, rb := x.relation(t, a, x.env), x.relation(t, b, x.env)
		join, _ := relation.Join(n, ra, rb)
		for op, want := range map[int]api.Rel{api.OpUnion: relation.Union(ra, rb), api.OpInter: relation.Inter(ra, rb), api.OpDiff: relation.Diff(ra, rb),
			api.OpOverride: relation.Override(n, ra, rb), api.OpJoin: join} {
			if got := x.relation(t, node(op, a, b), x.env); !relation.Equal(got, want) {
				t.Fatalf("%s: %v", printer.Formula(node(op, a, b)), got)
			}
		}
		u := x.Relation(x.sp, []string{"x"}, 1, 3, true)
		product, _ := relation.Product(n, x.relation(t, u, x.env), ra)
		if got := x.relation(t, node(api.OpProduct, u, a), x.env); !relation.Equal(got, product) {
			t.Fatalf("%s", printer.Formula(node(api.OpProduct, u, a)))
		}
		closure := relation.Closure(n, ra)
		if !relation.Equal(x.relation(t, node(api.OpClosure, a), x.env), closure) || !relation.Equal(x.relation(t, node(api.OpTranspose, a), x.env), relation.Transpose(n, ra)) ||
			!relation.Equal(x.relation(t, node(api.OpReflexive, a), x.env), relation.Union(closure, relation.Iden(n))) {
			t.Fatalf("%s", printer.Formula(a))
		}
		checkInstances(t, x, u)
	}
}

// checkInstances compares quantifiers and comprehensions with their instances.
func checkInstances(t *testing.T, x *setting, domain api.Node) {
	t.Helper()
	f := x.Formula(x.sp, []string{"x", "y"}, 3, true)
	all, some, set := true, false, rel(1)
	for _, atom := range x.relation(t, domain, x.env).Tuples {
		holds := x.value(t, f, x.state, append(x.env[:1:1], api.Binding{Name: "y", Atom: atom}))
		all, some = all && holds, some || holds
		if holds {
			set.Tuples = append(set.Tuples, atom)
		}
	}
	bind := func(op int) api.Node { return api.Node{Op: op, Name: "y", Kids: []api.Node{domain, f}} }
	if x.value(t, bind(api.OpAll), x.state, x.env) != all || x.value(t, bind(api.OpExists), x.state, x.env) != some || !relation.Equal(x.relation(t, bind(api.OpCompr), x.env), set) {
		t.Fatalf("%s", printer.Formula(bind(api.OpAll)))
	}
}

// P8.5, P8.6: representations of a trace, and bindings that do not matter.
func TestIndependence(t *testing.T) {
	s := sample.New(3)
	for range 1000 {
		x := newSetting(s)
		f := x.Formula(x.sp, []string{"x"}, 4, true)
		want := x.value(t, f, 0, x.env)
		unrolled := model.Shorten(x.m)
		for i := range unrolled.Scope.Steps - unrolled.Loop {
			unrolled.States = append(unrolled.States, model.At(unrolled, unrolled.Loop+i))
		}
		unrolled.Scope.Steps = len(unrolled.States)
		for _, m := range []api.Model{model.Shorten(x.m), unrolled} {
			if got, e := eval.Formula(x.sp, m, 0, x.env, f); got != want || e != api.OK {
				t.Fatalf("%s on another representation: %t, %d", printer.Formula(f), got, e)
			}
		}
		more := append([]api.Binding{{Name: "unused", Atom: 0}, {Name: "x", Atom: 0}}, x.env...)
		if x.value(t, f, 0, more) != want {
			t.Fatalf("%s with more bindings", printer.Formula(f))
		}
	}
}

// T2: values respect types.
func TestTypes(t *testing.T) {
	s := sample.New(4)
	for range 1000 {
		x := newSetting(s)
		n := x.Relation(x.sp, []string{"x"}, s.Between(1, 3), 4, true)
		types, e := typing.Type(x.sp, []api.Param{{Name: "x", Sort: universe.SortOf(x.m.Scope, x.env[0].Atom)}}, n)
		if e != api.OK {
			t.Fatalf("%s: %d", printer.Formula(n), e)
		}
		r := x.relation(t, n, x.env)
		for _, rank := range r.Tuples {
			var sorts []int
			for _, atom := range universe.Tuple(x.m.Scope, r.Arity, rank) {
				sorts = append(sorts, universe.SortOf(x.m.Scope, atom))
			}
			if !slices.ContainsFunc(types, func(y []int) bool { return slices.Equal(y, sorts) }) {
				t.Fatalf("%s: a tuple of the sorts %v, types %v", printer.Formula(n), sorts, types)
			}
		}
	}
}

// T2: a call denotes the body of its predicate with the arguments in place of the parameters.
func TestExpansion(t *testing.T) {
	s := sample.New(5)
	both := 0
	for range 1000 {
		x := newSetting(s)
		sort := s.Below(len(x.sp.Sorts))
		q := api.Pred{Name: "p", Params: []api.Param{{Name: "y", Sort: sort}, {Name: "g", Sort: sort}}, Body: x.Formula(x.sp, []string{"y", "g"}, 4, true)}
		x.sp.Preds = []api.Pred{q}
		domain := api.Node{Op: api.OpName, Name: x.sp.Sorts[sort].Name}
		name := func(s string) api.Node { return api.Node{Op: api.OpName, Name: s} }
		// The variables of the formula have the names of fields and of a parameter, which must not be captured.
		call := api.Node{Op: api.OpCall, Name: "p", Kids: []api.Node{name("f"), name("y")}}
		n := api.Node{Op: api.OpAll, Name: "y", Kids: []api.Node{domain, {Op: api.OpExists, Name: "f", Kids: []api.Node{domain, call}}}}
		want := true
		first, end := universe.First(x.m.Scope, sort), universe.First(x.m.Scope, sort+1)
		for second := first; second < end; second++ {
			some := false
			for atom := first; atom < end; atom++ {
				some = x.value(t, q.Body, 0, []api.Binding{{Name: "y", Atom: atom}, {Name: "g", Atom: second}}) || some
			}
			want = want && some
		}
		got, e := eval.Holds(x.sp, x.m, n)
		if e == api.ErrLimit {
			continue
		}
		if e != api.OK || got != want {
			t.Fatalf("%s%s: %t, %d", printer.Spec(x.sp), printer.Formula(n), got, e)
		}
		if want {
			both++
		}
	}
	if both < 200 || both > 800 {
		t.Errorf("%d of 1000 are true", both)
	}
}
