package narrow_test

import (
	"reflect"
	"strings"
	"testing"

	"armature/api"
	"armature/bounds"
	"armature/eval"
	"armature/narrow"
	"armature/parser"
	"armature/permute"
	"armature/printer"
	"armature/relation"
	"armature/sample"
	"armature/typing"
)

func spec(t *testing.T, text string) api.Spec {
	t.Helper()
	sp, d := parser.Parse(text)
	if len(d) > 0 || len(typing.Check(sp)) > 0 {
		t.Fatalf("%q: %v", text, d)
	}
	return sp
}

func formula(t *testing.T, text string) api.Node {
	t.Helper()
	n, d := parser.ParseFormula(text)
	if len(d) > 0 {
		t.Fatalf("%q: %v", text, d)
	}
	return n
}

func rel(arity int, tuples ...int) api.Rel { return api.Rel{Arity: arity, Tuples: tuples} }

func scope(steps int, atoms ...int) api.Scope { return api.Scope{Atoms: atoms, Steps: steps} }

// P10.1: conjuncts.
func TestConjuncts(t *testing.T) {
	for _, x := range []struct{ in, want string }{
		{"true", "true"}, {"some a && no b && true || false", "some a && no b && true || false"}, {"(some a && no b) && (one a && lone b)", "some a; no b; one a; lone b"},
		{"always (some a && (no b && one a))", "always some a; always no b; always one a"}, {"always some a", "always some a"},
		{"always always some a", "always some a"}, {"always (some a && always (no b && one a))", "always some a; always no b; always one a"}, {"not (some a && no b)", "not (some a && no b)"},
		{"always (some a || no b) && after (some a && no b)", "always (some a || no b); after (some a && no b)"},
	} {
		var got []string
		for _, n := range narrow.Conjuncts(formula(t, x.in)) {
			got = append(got, printer.Formula(n))
		}
		if strings.Join(got, "; ") != x.want {
			t.Errorf("Conjuncts(%s) = %s", x.in, got)
		}
	}
	n := formula(t, "true && always (some a && always no b)")
	got := narrow.Conjuncts(n)
	if got[1].At != 8 || got[1].Kids[0].At != 16 || got[2].At != 26 {
		t.Errorf("offsets %d, %d, %d", got[1].At, got[1].Kids[0].At, got[2].At)
	}
	got[1].Kids[0].Kids[0].Name = "z"
	if !printer.EqualNodes(n, formula(t, "true && always (some a && always no b)")) {
		t.Error("Conjuncts shares memory")
	}
}

// P10.1: intervals.
func TestUpper(t *testing.T) {
	sp := spec(t, "sort A; sort B ordered; field f: A; var field g: A -> A; field h: A -> B; pred p[] { true }")
	sc := scope(2, 2, 2)
	b := []api.Bound{{Lower: rel(1, 0), Upper: rel(1, 0, 1)}, {Lower: rel(2, 1), Upper: rel(2, 1, 4, 5)}, {Lower: rel(2, 2), Upper: rel(2, 2, 7)}}
	env := []api.Param{{Name: "x", Sort: 0}, {Name: "g2", Sort: 1}, {Name: "x", Sort: 1}}
	for _, x := range []struct {
		in           string
		lower, upper api.Rel
	}{
		{"x", rel(1), rel(1, 2, 3)}, {"f", rel(1, 0), rel(1, 0, 1)}, {"g'", rel(2, 1), rel(2, 1, 4, 5)}, {"A", rel(1, 0, 1), rel(1, 0, 1)}, {"B_first", rel(1, 2), rel(1, 2)}, {"B_next", rel(2, 11), rel(2, 11)},
		{"none[3]", rel(3), rel(3)}, {"univ", rel(1, 0, 1, 2, 3), rel(1, 0, 1, 2, 3)}, {"iden", rel(2, 0, 5, 10, 15), rel(2, 0, 5, 10, 15)}, {"g + h", rel(2, 1, 2), rel(2, 1, 2, 4, 5, 7)},
		{"f & x", rel(1), rel(1)}, {"A & f", rel(1, 0), rel(1, 0, 1)}, {"f . g", rel(1, 1), rel(1, 0, 1)}, {"f -> x", rel(2), rel(2, 2, 3, 6, 7)}, {"A - f", rel(1), rel(1, 1)}, {"f - A", rel(1), rel(1)},
		{"univ - x", rel(1, 0, 1), rel(1, 0, 1, 2, 3)}, {"g ++ none[2]", rel(2, 1), rel(2, 1, 4, 5)}, {"none[2] ++ g", rel(2, 1), rel(2, 1, 4, 5)}, {"g ++ h", rel(2, 2), rel(2, 2, 4, 5, 7)}, {"h ++ g", rel(2, 1), rel(2, 1, 4, 5, 7)}, {"g ++ (A -> A)", rel(2, 0, 1, 4, 5), rel(2, 0, 1, 4, 5)},
		{"~g", rel(2, 4), rel(2, 1, 4, 5)}, {"^g", rel(2, 1), rel(2, 0, 1, 4, 5)}, {"*g", rel(2, 0, 1, 5, 10, 15), rel(2, 0, 1, 4, 5, 10, 15)}, {"{y: f | y in y}", rel(1), rel(1, 0, 1)}, {"{x: B | x in x}", rel(1), rel(1, 2, 3)},
	} {
		got, e := narrow.Upper(sp, sc, b, env, formula(t, "no "+x.in).Kids[0])
		if e != api.OK || !relation.Equal(got.Lower, x.lower) || !relation.Equal(got.Upper, x.upper) {
			t.Errorf("Upper(%s) = %v, %d", x.in, got, e)
		}
	}
	for in, want := range map[string]api.Errno{"nothing": 40, "f + g": 42, "{y: A | p[]}": 45, "{y: A | p[y]}": 45, "{y: A | q[]}": 40, "{y: A | p[]} + nothing": 40} {
		if got, e := narrow.Upper(sp, sc, b, nil, formula(t, "no "+in).Kids[0]); !reflect.DeepEqual(got, api.Bound{}) || e != want {
			t.Errorf("Upper(%s) = %v, %d", in, got, e)
		}
	}
	if got, e := narrow.Upper(sp, sc, b, nil, formula(t, "true")); !reflect.DeepEqual(got, api.Bound{}) || e != api.ErrKind {
		t.Errorf("Upper of a formula: %v, %d", got, e)
	}
	got, _ := narrow.Upper(sp, sc, b, nil, formula(t, "no f").Kids[0])
	got.Upper.Tuples[0] = 9
	if b[0].Upper.Tuples[0] != 0 {
		t.Error("Upper shares memory")
	}
}

// P10.1: the effects of constraints, on unary fields f and g over three atoms, of which g is variable, and a binary field h.
func TestFixpoint(t *testing.T) {
	head := "sort A ordered; field f: A; var field g: A; field h: A -> A; pred p[x: A] { no x } "
	for _, x := range []struct {
		facts, in string
		steps     int
		want      string // lower and upper bounds of f and g, and those of h if they change
	}{
		{"", "true", 1, "|0 1 2;|0 1 2"}, {"", "no f", 1, "|;|0 1 2"}, {"", "no g", 1, "|0 1 2;|"}, {"", "no g", 2, "|0 1 2;|0 1 2"}, {"", "always no g", 2, "|0 1 2;|"}, {"", "no f", 2, "|;|0 1 2"},
		{"", "f = A && no g - f", 1, "0 1 2|0 1 2;|0 1 2"}, {"", "not some f", 1, "|;|0 1 2"}, {"", "not no A", 1, "|0 1 2;|0 1 2"}, {"", "f in A_first", 1, "|0;|0 1 2"}, {"", "A_first in f", 1, "0|0 1 2;|0 1 2"},
		{"", "f in A_first && some f", 1, "0|0;|0 1 2"}, {"", "f in A_first && not no f", 1, "0|0;|0 1 2"}, {"", "some f && f in A_first", 1, "0|0;|0 1 2"}, {"", "f in A_first && one f", 1, "0|0;|0 1 2"},
		{"", "one f && A_first in f", 1, "0|0;|0 1 2"}, {"", "lone f && A_first in f", 1, "0|0;|0 1 2"}, {"", "A in f && lone f", 1, "conflict"}, {"", "A in f && one f", 1, "conflict"},
		{"", "some f && no f", 1, "conflict"}, {"", "no f && not no f", 1, "conflict"}, {"", "no f && one f", 1, "conflict"}, {"", "false", 1, "conflict"}, {"", "false", 2, "conflict"}, {"", "not false", 1, "|0 1 2;|0 1 2"},
		{"", "not true", 1, "|0 1 2;|0 1 2"}, {"", "no A", 1, "conflict"}, {"", "A in A_first", 1, "conflict"}, {"", "A = A_first", 1, "conflict"}, {"", "f = A_first", 1, "0|0;|0 1 2"}, {"", "A_first = f", 1, "0|0;|0 1 2"},
		{"", "f = g && no g", 1, "|;|"}, {"", "f = g && always no g", 2, "|;|"}, {"", "f in g && A_first in f", 1, "0|0 1 2;0|0 1 2"}, {"", "f in g && A_first in f", 2, "0|0 1 2;|0 1 2"},
		{"", "g in A_first && g = f", 2, "|0 1 2;|0 1 2"}, {"", "always g in A_first && g = f", 2, "|0;|0"}, {"", "always always g in A_first", 3, "|0 1 2;|0"}, {"", "always (some f && g in A_first)", 3, "|0 1 2;|0"},
		{"", "after no f", 2, "|0 1 2;|0 1 2"}, {"", "always g' in A_first", 2, "|0 1 2;|0 1 2"}, {"", "not f in none", 1, "|0 1 2;|0 1 2"}, {"", "no f || no g", 1, "|0 1 2;|0 1 2"},
		{"", "A in f + A_first", 1, "1 2|0 1 2;|0 1 2"}, {"", "A in f + g && no g", 1, "0 1 2|0 1 2;|"}, {"", "f + g in A_first", 1, "|0;|0"}, {"", "A_first in f & g", 1, "0|0 1 2;0|0 1 2"}, {"", "f & g in A_first", 1, "|0 1 2;|0 1 2"},
		{"", "A_first in f - g", 1, "0|0 1 2;|1 2"}, {"", "f - g in A_first", 1, "|0 1 2;|0 1 2"}, {"", "A_next in ~h", 1, "|0 1 2;|0 1 2;3 7|0 1 2 3 4 5 6 7 8"}, {"", "~h in A_next", 1, "|0 1 2;|0 1 2;|3 7"},
		{"", "^h in A_next", 1, "|0 1 2;|0 1 2"}, {"", "h . A = none", 1, "|0 1 2;|0 1 2"}, {"", "f . h in none && A_first in f && A_next in h", 1, "conflict"},
		{"", "p[f] && p[g]", 1, "|;|"}, {"fact a { p[f] } fact b { some g - f }", "g in A_first", 1, "|;0|0"}, {"fact a { some f }", "no f", 1, "conflict"}, {"fact a { no g }", "some f", 2, "|0 1 2;|0 1 2"},
		{"", "A_first in f && f in g && g in A_first", 1, "0|0;0|0"}, {"", "g in A_first && f in g && A_first in f", 1, "0|0;0|0"},
	} {
		sp := spec(t, head+x.facts)
		sc := scope(x.steps, 3)
		got, e := narrow.Fixpoint(sp, sc, bounds.Default(sp, sc), formula(t, x.in))
		text := "conflict"
		if e == api.OK {
			text = show(got[0]) + ";" + show(got[1])
			if !reflect.DeepEqual(got[2], bounds.Default(sp, sc)[2]) {
				text += ";" + show(got[2])
			}
		} else if e != api.ErrConflict || got != nil {
			t.Errorf("%s: %v, %d", x.in, got, e)
		}
		if text != x.want {
			t.Errorf("%s %s in %d steps: %s, not %s", x.facts, x.in, x.steps, text, x.want)
		}
	}
	sp := spec(t, head+"fact a { true }")
	for in, want := range map[string]api.Errno{"some nothing": 40, "p[]": 45, "false && some f + h": 42} {
		if got, e := narrow.Fixpoint(sp, scope(1, 2), bounds.Default(sp, scope(1, 2)), formula(t, in)); got != nil || e != want {
			t.Errorf("%s: %v, %d", in, got, e)
		}
	}
}

func show(b api.Bound) string {
	var out string
	for i, l := range [][]int{b.Lower.Tuples, b.Upper.Tuples} {
		var words []string
		for _, x := range l {
			words = append(words, string(rune('0'+x)))
		}
		out += []string{"", "|"}[i] + strings.Join(words, " ")
	}
	return out
}

// tighter reports whether bounds are contained in others.
func tighter(a, b []api.Bound) bool {
	for i := range a {
		if !relation.In(b[i].Lower, a[i].Lower) || !relation.In(a[i].Upper, b[i].Upper) {
			return false
		}
	}
	return len(a) == len(b)
}

// between returns bounds that are tighter than others.
func between(s *sample.Source, b []api.Bound) []api.Bound {
	var out []api.Bound
	for _, x := range b {
		low := api.Bound{Lower: relation.Union(x.Lower, rel(x.Lower.Arity)), Upper: relation.Union(x.Upper, rel(x.Upper.Arity))}
		for _, rank := range relation.Diff(x.Upper, x.Lower).Tuples {
			switch s.Below(4) {
			case 0:
				low.Lower = relation.Union(low.Lower, rel(low.Lower.Arity, rank))
			case 1:
				low.Upper = relation.Diff(low.Upper, rel(low.Upper.Arity, rank))
			}
		}
		out = append(out, low)
	}
	return out
}

// constraint returns a formula that has effects more often than a sampled one.
func constraint(s *sample.Source, sp api.Spec) api.Node {
	and := func(a, b api.Node) api.Node { return api.Node{Op: api.OpAnd, Kids: []api.Node{a, b}} }
	one := func() api.Node {
		op := sample.Pick(s, []int{api.OpIn, api.OpIn, api.OpEqual, api.OpSome, api.OpNo, api.OpOne, api.OpLone})
		arity := s.Between(1, 2)
		n := api.Node{Op: op, Kids: []api.Node{s.Relation(sp, nil, arity, 3, false)}}
		if op == api.OpIn || op == api.OpEqual {
			n.Kids = append(n.Kids, s.Relation(sp, nil, arity, 3, false))
		}
		if (op == api.OpSome || op == api.OpNo) && s.Chance(40) {
			n = api.Node{Op: api.OpNot, Kids: []api.Node{n}}
		}
		if s.Chance(40) {
			n = api.Node{Op: api.OpAlways, Kids: []api.Node{n}}
		}
		return n
	}
	n := one()
	for range s.Below(3) {
		n = and(n, one())
	}
	if s.Chance(30) {
		n = and(n, s.Formula(sp, nil, 3, true))
	}
	return n
}

// P10.2 to P10.6 on sampled problems.
func TestRandom(t *testing.T) {
	s := sample.New(1)
	conflicts, changes, models := 0, 0, 0
	for range 2500 {
		sp := s.Spec(sample.Small)
		sc := s.Scope(sp, 3, 2)
		b := s.Bounds(sp, sc, 20)
		n := constraint(s, sp)
		got, e := narrow.Fixpoint(sp, sc, b, n)
		if e != api.OK && e != api.ErrConflict {
			continue // a limit of the expansion
		}
		for range 10 {
			m := s.Model(sp, sc, b)
			if holds, _ := eval.Holds(sp, m, n); holds {
				models++
				if e != api.OK || !bounds.Contains(got, m) {
					t.Fatalf("%s%s: %v is lost", printer.Spec(sp), printer.Formula(n), m)
				}
			}
			checkConjuncts(t, sp, m, n)
			checkInterval(t, s, sp, m, b)
		}
		less := between(s, b)
		tight, f := narrow.Fixpoint(sp, sc, less, n)
		more, g := narrow.Fixpoint(sp, sc, b, api.Node{Op: api.OpAnd, Kids: []api.Node{constraint(s, sp), n}})
		if e != api.OK {
			conflicts++
			if f == api.OK || g == api.OK {
				t.Fatalf("%s: the conflict is lost", printer.Formula(n))
			}
			continue
		}
		if !tighter(got, less) && !tighter(less, got) && !bounds.Equal(got, b) {
			changes++
		}
		again, h := narrow.Fixpoint(sp, sc, got, n)
		if h != api.OK || !bounds.Equal(again, got) || !bounds.Valid(sp, sc, got) || !tighter(got, b) {
			t.Fatalf("%s: %v is no fixed point", printer.Formula(n), got)
		}
		if f == api.OK && !tighter(tight, got) || g == api.OK && !tighter(more, got) {
			t.Fatalf("%s: not monotone", printer.Formula(n))
		}
	}
	if conflicts < 50 || changes < 50 || models < 50 {
		t.Errorf("%d conflicts, %d changes, %d models", conflicts, changes, models)
	}
}

// checkConjuncts checks that a formula is true exactly if its conjuncts are, in every state.
func checkConjuncts(t *testing.T, sp api.Spec, m api.Model, n api.Node) {
	t.Helper()
	n, e := typing.Inline(sp, n)
	if e != api.OK {
		return
	}
	for state := range m.States {
		all := true
		for _, c := range narrow.Conjuncts(n) {
			b, _ := eval.Formula(sp, m, state, nil, c)
			all = all && b
		}
		if b, _ := eval.Formula(sp, m, state, nil, n); b != all {
			t.Fatalf("%s: %t", printer.Formula(n), b)
		}
	}
}

// checkInterval checks that values lie in their intervals, and that tighter bounds have tighter intervals (P10.3).
func checkInterval(t *testing.T, s *sample.Source, sp api.Spec, m api.Model, b []api.Bound) {
	t.Helper()
	env := []api.Param{{Name: "x", Sort: s.Below(len(sp.Sorts))}}
	n := s.Relation(sp, []string{"x"}, s.Between(1, 2), 4, true)
	wide, e := narrow.Upper(sp, m.Scope, b, env, n)
	if e == api.ErrCall {
		return
	}
	tight, f := narrow.Upper(sp, m.Scope, between(s, b), env, n)
	if e != api.OK || f != api.OK || !tighter([]api.Bound{tight}, []api.Bound{wide}) {
		t.Fatalf("%s: %v, %v", printer.Formula(n), wide, tight)
	}
	first := 0
	for _, size := range m.Scope.Atoms[:env[0].Sort] {
		first += size
	}
	for i := range m.Scope.Atoms[env[0].Sort] {
		for state := range m.States {
			r, e := eval.Expr(sp, m, state, []api.Binding{{Name: "x", Atom: first + i}}, n)
			if e != api.OK || !relation.In(wide.Lower, r) || !relation.In(r, wide.Upper) {
				t.Fatalf("%s: %v is not in %v", printer.Formula(n), r, wide)
			}
		}
	}
}

// T3: narrowing and evaluation commute with permutations that leave the atoms of ordered sorts in place.
func TestSymmetry(t *testing.T) {
	s := sample.New(2)
	for range 500 {
		sp := s.Spec(sample.Small)
		for i := range sp.Sorts {
			sp.Sorts[i].Ordered = false
		}
		sp.Preds, sp.Facts = nil, nil
		sc := s.Scope(sp, 3, 2)
		b := s.Bounds(sp, sc, 20)
		n := constraint(s, sp)
		p := sample.Pick(s, permute.All(sc))
		image := func(b []api.Bound) []api.Bound {
			var out []api.Bound
			for _, x := range b {
				out = append(out, api.Bound{Lower: permute.Rel(sc, p, x.Lower), Upper: permute.Rel(sc, p, x.Upper)})
			}
			return out
		}
		got, e := narrow.Fixpoint(sp, sc, b, n)
		moved, f := narrow.Fixpoint(sp, sc, image(b), n)
		if e != f || !bounds.Equal(image(got), moved) {
			t.Fatalf("%s: %v and %v under %v", printer.Formula(n), got, moved, p)
		}
		m := s.Model(sp, sc, b)
		x, _ := eval.Holds(sp, m, n)
		y, _ := eval.Holds(sp, permute.Model(p, m), n)
		if x != y {
			t.Fatalf("%s: %v under %v", printer.Formula(n), m, p)
		}
	}
}
