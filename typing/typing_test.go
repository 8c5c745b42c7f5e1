package typing_test

import (
	"reflect"
	"strings"
	"testing"

	"armature/api"
	"armature/parser"
	"armature/printer"
	"armature/sample"
	"armature/typing"
)

func spec(t *testing.T, text string) api.Spec {
	t.Helper()
	sp, d := parser.Parse(text)
	if len(d) > 0 {
		t.Fatalf("%q: %v", text, d)
	}
	return sp
}

func formula(t *testing.T, text string) api.Node {
	t.Helper()
	n, d := parser.ParseFormula(text)
	if len(d) > 0 {
		t.Fatalf("%q: %v", text, d)
	}
	return n
}

// expression parses a relational expression.
func expression(t *testing.T, text string) api.Node {
	t.Helper()
	return formula(t, "no "+text).Kids[0]
}

const basic = `sort A; sort B ordered; sort C;
field f: A -> B; field g: B; var field h: A -> A; field t: A -> B -> A; field g: A -> C; field B_first: A;
pred p[x: A] { some x . f }
pred q[] { always some g2 }
pred r[x: A, y: B] { p[x] && q[] && y in x . f }
pred u[] { some h' }
pred v[x: A] { true }`

// P4.1: types, with the order of their tuples.
func TestTypes(t *testing.T) {
	sp := spec(t, basic)
	sp.Fields[4].Name = "gg"
	for _, x := range []struct {
		in   string
		want [][]int
	}{
		{"A", [][]int{{0}}}, {"f", [][]int{{0, 1}}}, {"t", [][]int{{0, 1, 0}}}, {"A . f", [][]int{{1}}}, {"f . f", nil}, {"none[2]", nil},
		{"univ", [][]int{{0}, {1}, {2}}}, {"iden", [][]int{{0, 0}, {1, 1}, {2, 2}}}, {"B_next", [][]int{{1, 1}}}, {"h'", [][]int{{0, 0}}},
		{"gg + f", [][]int{{0, 1}, {0, 2}}}, {"C + B + A", [][]int{{0}, {1}, {2}}}, {"(A + B) & (B + C)", [][]int{{1}}}, {"f & gg", nil}, {"A & A", [][]int{{0}}}, {"A & (B + A)", [][]int{{0}}},
		{"(A + B) - A", [][]int{{0}, {1}}}, {"f ++ gg", [][]int{{0, 1}, {0, 2}}}, {"(A + B) -> C", [][]int{{0, 2}, {1, 2}}},
		{"~(f + gg)", [][]int{{1, 0}, {2, 0}}}, {"^(f + B -> C)", [][]int{{0, 1}, {0, 2}, {1, 2}}}, {"*f", [][]int{{0, 0}, {0, 1}, {1, 1}, {2, 2}}},
		{"^(A -> B + B -> C + C -> A)", [][]int{{0, 0}, {0, 1}, {0, 2}, {1, 0}, {1, 1}, {1, 2}, {2, 0}, {2, 1}, {2, 2}}},
		{"t . f", [][]int{{0, 1, 1}}}, {"A . t", [][]int{{1, 0}}}, {"{x: A + C | true}", [][]int{{0}, {2}}}, {"{x: A | x in x} . f", [][]int{{1}}},
		{"x", [][]int{{1}}}, {"x . ~f", [][]int{{0}}}, {"f . x", [][]int{{0}}}, {"A -> x -> y", [][]int{{0, 1, 2}}},
	} {
		env := []api.Param{{Name: "x", Sort: 0}, {Name: "x", Sort: 1}, {Name: "y", Sort: 2}}
		got, e := typing.Type(sp, env, expression(t, x.in))
		if e != api.OK || len(got) != len(x.want) || len(got) > 0 && !reflect.DeepEqual(got, x.want) {
			t.Errorf("Type of %s: %v, %d", x.in, got, e)
		}
	}
	if got, e := typing.Type(sp, nil, formula(t, "true")); got != nil || e != api.ErrKind {
		t.Errorf("Type of a formula: %v, %d", got, e)
	}
	if got, e := typing.Type(sp, nil, formula(t, "1 = 1").Kids[0]); got != nil || e != api.ErrKind {
		t.Errorf("Type of an integer: %v, %d", got, e)
	}
	if got, e := typing.Type(sp, nil, expression(t, "f + A")); got != nil || e != api.ErrArity {
		t.Errorf("Type of a sum: %v, %d", got, e)
	}
	if got, e := typing.Type(sp, nil, expression(t, "{x: A | p[x, x]}")); got != nil || e != api.ErrCall {
		t.Errorf("Type with a call: %v, %d", got, e)
	}
}

// P4.1, P4.4: the first diagnostic of a formula.
func TestCheckFormula(t *testing.T) {
	sp := spec(t, basic)
	for _, x := range []struct {
		in string
		e  api.Errno
		at int
	}{
		{"some f", 0, 0}, {"some f + A", 42, 7}, {"some f . f", 0, 0}, {"some nothing", 40, 5}, {"some g", 44, 5}, {"some B_first", 44, 5},
		{"some B_next . B_next", 0, 0}, {"some A_first", 40, 5}, {"some B_last", 40, 5}, {"some x", 0, 0}, {"all g: A | some g . h", 0, 0},
		{"all C: A | some C . h", 0, 0}, {"(all z: A | true) && some z", 40, 26}, {"some z: A + h | true", 42, 10}, {"some z: h | true", 42, 0},
		{"some z: h | some nothing", 42, 0}, {"all z: z | true", 40, 7}, {"no {z: h | true}", 42, 3}, {"no {z: A | some zz}", 40, 16},
		{"some A . A", 42, 7}, {"some t . t", 42, 7}, {"some f -> t", 42, 7}, {"some f -> A", 0, 0}, {"some f -> f", 42, 7}, {"some A . t", 0, 0}, {"some t . A", 0, 0},
		{"f in A", 42, 2}, {"f = t", 42, 2}, {"f != t", 42, 2}, {"f = h", 0, 0}, {"some f & A", 42, 7}, {"some f - t", 42, 7}, {"some f ++ A", 42, 7}, {"some none[2] + f", 0, 0},
		{"some ~A", 42, 5}, {"some ^t", 42, 5}, {"some *A", 42, 5}, {"#A < #nothing", 40, 6}, {"1 = #~A", 42, 5}, {"some nothing + (f + A)", 40, 5}, {"some (f + A) + nothing", 42, 8},
		{"p[A]", 0, 0}, {"p[]", 45, 0}, {"p[A, A]", 45, 0}, {"nothing[A]", 40, 0}, {"p[f]", 42, 0}, {"p[B]", 43, 0}, {"p[A + B]", 43, 0}, {"p[f . univ]", 0, 0}, {"p[none]", 0, 0},
		{"p[nothing]", 40, 2}, {"r[A, A]", 43, 0}, {"r[f, nothing]", 42, 0}, {"r[B, nothing]", 43, 0}, {"r[A, f + A]", 42, 7}, {"r[A, B]", 0, 0}, {"f[A]", 40, 0},
		{"some ^(h')", 46, 8}, {"some *(h + h')", 46, 12}, {"some (^h)'", 0, 0}, {"some {z: A | always some z}", 46, 13}, {"some {z: A' | true}", 46, 10}, {"some {z: A | r[z, nothing]}", 46, 13},
		{"p[A']", 46, 3}, {"p[{z: A | p[z]}]", 0, 0}, {"p[{z: A | q[]}]", 46, 10}, {"some {z: A | u[]}", 46, 13}, {"some {z: A | v[z]}", 0, 0}, {"all z: A | r[z, B]", 0, 0},
		{"some ^({z: A | q[1, 2]} -> A)", 46, 15}, {"always q[]", 0, 0}, {"some {z: A | q[A]}", 46, 13}, {"some ^(nothing')", 46, 14}, {"some ^(nothing + h')", 40, 7},
		{"true until nothing[]", 40, 11}, {"not some nothing || true", 40, 9}, {"after some f + A", 42, 13}, {"some A || (some nothing <=> p[])", 40, 16},
	} {
		if strings.Contains(x.in, "[1, 2]") {
			x.in = strings.ReplaceAll(x.in, "1, 2", "A, A")
		}
		d := typing.CheckFormula(sp, []api.Param{{Name: "x", Sort: 2}}, formula(t, x.in))
		if d != (api.Diagnostic{Err: x.e, At: x.at}) {
			t.Errorf("CheckFormula(%q) = %v at %d", x.in, int(d.Err), d.At)
		}
	}
	for _, text := range []string{"A + nothing", "^f"} {
		n := expression(t, text)
		if d := typing.CheckFormula(sp, nil, n); d != (api.Diagnostic{Err: api.ErrKind, At: n.At}) {
			t.Errorf("CheckFormula of an expression: %v", d)
		}
	}
	twice := api.Spec{Sorts: []api.Sort{{Name: "A"}, {Name: "A", Ordered: true}}}
	if d := typing.CheckFormula(twice, nil, formula(t, "some A")); d.Err != api.ErrAmbiguous {
		t.Errorf("two sorts with one name: %v", d)
	}
	if d := typing.CheckFormula(spec(t, "sort A; field A: A;"), nil, formula(t, "some A")); d != (api.Diagnostic{Err: api.ErrAmbiguous, At: 5}) {
		t.Errorf("a sort and a field with one name: %v", d)
	}
}

// P4.1: the diagnostics of specifications.
func TestCheck(t *testing.T) {
	for _, x := range []struct {
		in   string
		want []api.Diagnostic
	}{
		{"", nil},
		{"sort A; field f: A; field f: A -> A; pred p[x: A] { x in f } fact a { true }", []api.Diagnostic{{Err: 44, At: 57}}},
		{"sort A; sort A; sort B; sort A;", []api.Diagnostic{{Err: 41}, {Err: 41}}},
		{"sort A; field f: A; field f: A; var field f: A; field f: A -> A;", []api.Diagnostic{{Err: 41}, {Err: 41}}},
		{"sort A; pred p[x: A, x: A, y: A, x: A] { true } pred p[] { some z }", []api.Diagnostic{{Err: 41}, {Err: 41}, {Err: 41}, {Err: 40, At: 64}}},
		{"fact a { true } fact a { p[] } pred p[] { p[] } pred q[] { q2[] } pred q2[] { q[] && p[] }", []api.Diagnostic{{Err: 45, At: 42}, {Err: 45, At: 59}, {Err: 41}}},
		{"pred p[] { true } pred p[] { p[] } fact a { p[] }", []api.Diagnostic{{Err: 41}}},
		{"sort A; pred p[x: A] { some x } fact a { some x }", []api.Diagnostic{{Err: 40, At: 46}}},
		{"sort A; field f: A; fact a { some f + f -> f } fact b { some g } pred p[] { f[] }", []api.Diagnostic{{Err: 40, At: 76}, {Err: 42, At: 36}, {Err: 40, At: 61}}},
		{"sort A; var field f: A; pred p[] { some f' } pred q[] { p[] } pred r[] { some {x: A | q[]} } fact a { some {x: A | p[]} }",
			[]api.Diagnostic{{Err: 46, At: 86}, {Err: 46, At: 115}}},
		{"sort A; pred p[f: A] { some f } field f: A -> A; field f: A;", nil},
	} {
		got := typing.Check(spec(t, x.in))
		if len(got) != len(x.want) || len(got) > 0 && !reflect.DeepEqual(got, x.want) {
			t.Errorf("Check(%q) = %v", x.in, got)
		}
	}
	if got := typing.Check(api.Spec{Facts: []api.Fact{{Body: api.Node{Op: api.OpUniv, At: 7}}}}); len(got) != 1 || got[0] != (api.Diagnostic{Err: api.ErrKind, At: 7}) {
		t.Errorf("a fact that is no formula: %v", got)
	}
}

// P4.1, P4.5: expansions.
func TestInline(t *testing.T) {
	sp := spec(t, `sort A; sort B ordered; field f: A -> A; field v2: A;
pred p[x : A] { some x . f }
pred q[x: A, y: A] { all z: x | some y: z . f | p[y + z] && p[x] }
pred e[] { no f }
pred s[f: A] { some x: f | x in f }
pred k[x: A] { some {x: x | p[x]} }`)
	for _, x := range []struct{ in, want string }{
		{"all f : A | p[f]", "all v1: A | some v1.f"},
		{"some v1: A | all A: v1 | e[] && some A", "some v1: A | all v3: v1 | no f && some v3"},
		{"all f: A | some f", "all f: A | some f"},
		{"q[A, v2]", "all v1: A | some v3: v1.f | some (v3 + v1).f && some A.f"},
		{"q[v2, A] && all z: A | p[z]", "(all v1: v2 | some v3: v1.f | some (v3 + v1).f && some v2.f) && all z: A | some z.f"},
		{"all f: A | some B: f | e[] || s[B]", "all v1: A | some v3: v1 | no f || some v4: v3 | v4 in v3"},
		{"all x: A | k[x] && k[{x: x | p[x]}]", "all x: A | (some {v1: x | some v1.f}) && some {v3: {x: x | some x.f} | some v3.f}"},
		{"all B_first: A | p[B_first]", "all v1: A | some v1.f"},
		{"p[{f: A | p[f]}]", "some {v1: A | some v1.f}.f"},
		{"not e[] until after e[]", "not no f until after no f"},
		{"some v1: A | some v3: A | k[v1 & v3]", "some v1: A | some v3: A | some {v4: v1 & v3 | some v4.f}"},
	} {
		got, e := typing.Inline(sp, formula(t, x.in))
		want := strings.ReplaceAll(x.want, "(some {v1: x | some v1.f}) &&", "some {v1: x | some v1.f} &&")
		if text := printer.Formula(got); e != api.OK || text != want {
			t.Errorf("Inline(%q) = %q, %d", x.in, text, e)
		}
	}
	n := formula(t, "p[v2] && some A")
	got, _ := typing.Inline(sp, n)
	if got.At != n.At || got.Kids[0].At != sp.Preds[0].Body.At || got.Kids[0].Kids[0].Kids[0].At != n.Kids[0].Kids[0].At {
		t.Error("offsets are not kept")
	}
	for _, x := range []struct {
		in string
		e  api.Errno
	}{{"p[]", 45}, {"some g", 40}, {"p[B]", 43}, {"e[] && p[f]", 42}} {
		if n, e := typing.Inline(sp, formula(t, x.in)); !printer.EqualNodes(n, api.Node{}) || e != x.e {
			t.Errorf("Inline(%q): %d", x.in, e)
		}
	}
	if n, e := typing.Inline(sp, api.Node{Op: api.OpUniv}); n.Op != 0 || e != api.ErrKind {
		t.Errorf("Inline of an expression: %d", e)
	}
}

// P4.1: the limits of an expansion.
func TestInlineLimits(t *testing.T) {
	var or func(call string, n int) string // a balanced disjunction: 2n-1 nodes
	or = func(call string, n int) string {
		if n == 1 {
			return call
		}
		return "(" + or(call, n/2) + " || " + or(call, n-n/2) + ")"
	}
	nine := "pred p[] { some (A+A+A+A) }" // some, 3 unions, 4 names: 8 nodes
	for _, x := range []struct {
		spec, in string
		e        api.Errno
	}{
		{nine, or("p[]", 5), api.OK},
		{nine + " pred q[] { " + or("p[]", 15) + " }", "q[]", api.OK},                                            // 14 + 15*8 nodes
		{nine + " pred q[] { " + or("p[]", 15) + " }", or("q[]", 3), api.ErrLimit},                               // 2 + 3*134 = 404 nodes
		{"pred p[] { " + strings.Repeat("not ", 20) + "true }", "not not not p[]", api.OK},                       // 24 levels
		{"pred p[] { " + strings.Repeat("not ", 20) + "true }", "not not not not p[]", api.ErrLimit},             // 25 levels
		{"pred z[x: A] { true } pred q[] { z[A+A+A+A+A+A+A+A+A+A+A+A+A+A+A+A+A+A+A+A] }", or("q[]", 20), api.OK}, // cost 39 + 20*41
		{"pred p[] { some A }", "not not " + or("p[]", 133), api.OK},                                             // 2 + 133*2 + 132 = 400 nodes
		{"pred p[] { some A }", "not not not " + or("p[]", 133), api.ErrLimit},                                   // 401 nodes
		{cheap(97), "c[]", api.OK},
		{cheap(98), "c[]", api.ErrLimit},
	} {
		sp := spec(t, "sort A; "+x.spec)
		if d := typing.Check(sp); len(d) > 0 {
			t.Fatal(d)
		}
		n, d := parser.ParseFormula(x.in)
		if len(d) > 0 {
			t.Fatalf("%q: %v", x.in, d)
		}
		if _, e := typing.Inline(sp, n); e != x.e {
			t.Errorf("Inline(%q) with %q: %d", x.in, x.spec, e)
		}
	}
}

// cheap returns predicates such that a call of c has a small expansion, but a cost near 4000: z ignores its argument.
// The cost is 327 for each 8 units (d), 39 for each other one (a), and twice the number of calls in c.
func cheap(n int) string {
	text := "pred z[x: A] { true } pred a[] { z[A+A+A+A+A+A+A+A+A+A+A+A+A+A+A+A+A+A+A] } "
	// d has 8 calls of a in a balanced tree: 15 nodes, and 8*39 below.
	text += "pred d[] { ((a[] || a[]) || (a[] || a[])) || ((a[] || a[]) || (a[] || a[])) } "
	var calls []string
	for range n / 8 {
		calls = append(calls, "d[]")
	}
	for range n % 8 {
		calls = append(calls, "a[]")
	}
	return text + "pred c[] { " + strings.Join(calls, " || ") + " }"
}

// P4.1: the cost counts every node of the formula, of each expanded body, and every replacement by the size of the argument.
func TestInlineCost(t *testing.T) {
	// The arguments of z are dropped, so that only the cost grows: a call z[e] costs 1 + size(e) + 1.
	sp := spec(t, "sort A; pred z[x: A] { true } pred y[x: A] { z[x+x+x+x+x] } pred w[x: A] { y[x] || y[x] || y[x] || y[x] || y[x] || y[x] || y[x] || y[x] }")
	// y[e]: 1 + e + body 10 (call, 4 unions, 5 names) + 5e + true. w[e]: 1 + e + 7 + 8*(1 + (1 + e) + 10 + 5e + 1).
	cost := func(e int) int { return 1 + e + 7 + 8*(1+1+e+10+5*e+1) }
	for e := 1; e < 100; e += 2 {
		arg := "A" + strings.Repeat("+A", (e-1)/2)
		if (e-1)/2 > 20 {
			break
		}
		want := api.OK
		if total := 1 + 2*cost(e); total > 4000 {
			want = api.ErrLimit
		}
		if _, got := typing.Inline(sp, formula(t, "w["+arg+"] && w["+arg+"]")); got != want {
			t.Errorf("arguments of %d nodes, cost %d: %d", e, 1+2*cost(e), got)
		}
	}
	// The exact bound: a conjunction of calls with cost 4000 and one more node.
	for extra, want := range map[int]api.Errno{0: api.OK, 1: api.ErrLimit} {
		n := exactly(4000 + extra)
		if _, got := typing.Inline(sp, n); got != want {
			t.Errorf("cost %d: %d", 4000+extra, got)
		}
	}
}

// exactly returns a formula for the specification of TestInlineCost whose expansion has the given cost.
func exactly(cost int) api.Node {
	a := api.Node{Op: api.OpName, Name: "A"}
	call := func(n api.Node) api.Node { return api.Node{Op: api.OpCall, Name: "w", Kids: []api.Node{n}} }
	and := func(x, y api.Node) api.Node { return api.Node{Op: api.OpAnd, Kids: []api.Node{x, y}} }
	n, total := call(a), 1+1+7+8*(1+1+1+10+5+1)
	for cost-total > 200 {
		n, total = and(n, call(a)), total+1+161
	}
	for cost-total > 4 {
		size := min(cost-total-3, 31)
		size -= 1 - size%2
		n, total = and(n, api.Node{Op: api.OpCall, Name: "z", Kids: []api.Node{union(size)}}), total+size+3
	}
	n = balanced(n)
	for range cost - total {
		n = api.Node{Op: api.OpNot, Kids: []api.Node{n}}
	}
	return n
}

// union returns a tree with an odd number of nodes.
func union(size int) api.Node {
	if size < 2 {
		return api.Node{Op: api.OpName, Name: "A"}
	}
	left := (size - 1) / 2
	left -= 1 - left%2
	return api.Node{Op: api.OpUnion, Kids: []api.Node{union(left), union(size - 1 - left)}}
}

// balanced rebuilds a conjunction so that it has few levels.
func balanced(n api.Node) api.Node {
	var parts []api.Node
	for n.Op == api.OpAnd {
		parts = append(parts, n.Kids[1])
		n = n.Kids[0]
	}
	parts = append(parts, n)
	for len(parts) > 1 {
		parts = append(parts[2:], api.Node{Op: api.OpAnd, Kids: []api.Node{parts[0], parts[1]}})
	}
	return parts[0]
}

// P4.2, P4.5 on sampled specifications and formulas.
func TestRandom(t *testing.T) {
	s := sample.New(4)
	size := sample.Size{Sorts: 3, Fields: 4, Arity: 3, Preds: 4, Facts: 2, Levels: 4, Temporal: true}
	for range 1500 {
		sp := s.Spec(size)
		if d := typing.Check(sp); len(d) > 0 {
			t.Fatalf("%s%v", printer.Spec(sp), d)
		}
		n := s.Formula(sp, nil, s.Between(1, 5), true)
		if d := typing.CheckFormula(sp, nil, n); d.Err != api.OK {
			t.Fatalf("%s%s: %v", printer.Spec(sp), printer.Formula(n), d)
		}
		out, e := typing.Inline(sp, n)
		if e == api.OK {
			again, _ := typing.Inline(sp, out)
			if !parser.ValidNode(out) || strings.Contains(printer.Formula(out), "[]") || typing.CheckFormula(sp, nil, out).Err != api.OK || !reflect.DeepEqual(out, again) {
				t.Fatalf("%s%s is expanded to %s", printer.Spec(sp), printer.Formula(n), printer.Formula(out))
			}
		} else if e != api.ErrLimit {
			t.Fatalf("%s%s: %d", printer.Spec(sp), printer.Formula(n), e)
		}
		checkType(t, s, sp)
	}
}

// checkType checks the form of a type, that variables are only names (P4.3), and that operators are monotone (P4.6).
func checkType(t *testing.T, s *sample.Source, sp api.Spec) {
	t.Helper()
	env := []api.Param{{Name: "x", Sort: s.Below(len(sp.Sorts))}}
	arity := s.Between(1, 3)
	n := s.Relation(sp, []string{"x"}, arity, 4, true)
	got, e := typing.Type(sp, env, n)
	if e != api.OK {
		t.Fatalf("%s: %d", printer.Formula(n), e)
	}
	for i, x := range got {
		for _, sort := range x {
			if len(x) != arity || sort < 0 || sort >= len(sp.Sorts) || i > 0 && reflect.DeepEqual(x, got[i-1]) {
				t.Fatalf("type of %s: %v", printer.Formula(n), got)
			}
		}
	}
	renamed := rename(n, "x", "fresh")
	other, e := typing.Type(sp, []api.Param{{Name: "unused", Sort: 0}, {Name: "fresh", Sort: env[0].Sort}}, renamed)
	if e != api.OK || !reflect.DeepEqual(got, other) {
		t.Fatalf("%s and %s", printer.Formula(n), printer.Formula(renamed))
	}
	more := api.Node{Op: api.OpUnion, Kids: []api.Node{n, s.Relation(sp, nil, arity, 2, false)}}
	wrap := func(x api.Node) api.Node {
		if arity == 2 {
			return api.Node{Op: api.OpClosure, Kids: []api.Node{{Op: api.OpTranspose, Kids: []api.Node{x}}}}
		}
		return api.Node{Op: api.OpJoin, Kids: []api.Node{x, {Op: api.OpProduct, Kids: []api.Node{{Op: api.OpUniv}, {Op: api.OpUniv}}}}}
	}
	if arity == 2 {
		n, more = s.Relation(sp, nil, 2, 3, false), api.Node{Op: api.OpUnion, Kids: []api.Node{n, more}}
		more.Kids[0] = n
		more.Kids[1] = s.Relation(sp, nil, 2, 3, false)
	}
	small, e1 := typing.Type(sp, env, wrap(n))
	large, e2 := typing.Type(sp, env, wrap(more))
	if e1 != e2 {
		t.Fatalf("%d, %d", e1, e2)
	}
	for _, x := range small {
		found := false
		for _, y := range large {
			found = found || reflect.DeepEqual(x, y)
		}
		if !found {
			t.Fatalf("%v is in the type of %s only", x, printer.Formula(wrap(n)))
		}
	}
}

// rename replaces a free name; the sampled trees bind the name only in comprehensions, where it is replaced as well.
func rename(n api.Node, from, to string) api.Node {
	if n.Name == from {
		n.Name = to
	}
	var kids []api.Node
	for _, kid := range n.Kids {
		kids = append(kids, rename(kid, from, to))
	}
	n.Kids = kids
	return n
}

// P4.3, P4.4: environments and connectives.
func TestComposition(t *testing.T) {
	s := sample.New(5)
	for range 500 {
		sp := s.Spec(sample.Small)
		a, b := s.Formula(sp, nil, 3, true), s.Formula(sp, nil, 3, true)
		if s.Chance(50) {
			b = formula(t, "some nothing + f")
		}
		if s.Chance(50) {
			a = formula(t, "some nowhere")
		}
		da, db := typing.CheckFormula(sp, nil, a), typing.CheckFormula(sp, nil, b)
		want := da
		if da.Err == api.OK {
			want = db
		}
		for _, op := range []int{api.OpAnd, api.OpOr, api.OpImplies, api.OpIff, api.OpUntil} {
			if d := typing.CheckFormula(sp, nil, api.Node{Op: op, Kids: []api.Node{a, b}, At: 99}); d != want {
				t.Fatalf("%v, not %v", d, want)
			}
		}
		if d := typing.CheckFormula(sp, []api.Param{{Name: "unused"}}, api.Node{Op: api.OpNot, Kids: []api.Node{a}}); d != da {
			t.Fatalf("%v, not %v", d, da)
		}
	}
}
