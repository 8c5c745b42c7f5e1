package printer

import (
	"strings"
	"testing"

	"armature/api"
	"armature/parser"
	"armature/sample"
)

func parse(t *testing.T, text string) api.Node {
	t.Helper()
	n, d := parser.ParseFormula(text)
	if len(d) > 0 {
		t.Fatalf("%q: %v", text, d)
	}
	return n
}

// P3.1, P3.3: texts of formulas; the second one is canonical.
func TestFormula(t *testing.T) {
	for _, x := range []struct{ in, want string }{
		{"(all x: A | p[]) && q[]", "(all x: A | p[]) && q[]"},
		{"not (true&&false)", "not (true && false)"},
		{"some a-(b-c)", "some a - (b - c)"},
		{"some (a-b)-c", "some a - b - c"},
		{"(true=>false)=>(true=>false)", "(true => false) => true => false"},
		{"((true until false) until true) until false", "((true until false) until true) until false"},
		{"true until (false until true)", "true until false until true"},
		{"((true<=>false)<=>true)||false", "(true <=> false <=> true) || false"},
		{"true <=> (false <=> true)", "true <=> (false <=> true)"},
		{"not (not (true))", "not not true"},
		{"(not true) until (always (eventually (after true)))", "not true until always eventually after true"},
		{"not (true until false)", "not (true until false)"},
		{"(a) in (b+c)", "a in b + c"},
		{"(not (a = b))", "not a = b"},
		{"a != b", "not a = b"},
		{"1 <= #a", "not #a < 1"},
		{"(-1) = (2 - (3 + 4)) - 5", "-1 = 2 - (3 + 4) - 5"},
		{"no none[1]&none[2]'", "no none & none[2]'"},
		{"some (a')'", "some a''"},
		{"some (a.b)'", "some (a.b)'"},
		{"some (~a)'", "some (~a)'"},
		{"some ~(a')", "some ~a'"},
		{"some ~(^(*a))", "some ~^*a"},
		{"some (~a).(b.c)", "some ~a.(b.c)"},
		{"some ~(a.b)", "some ~(a.b)"},
		{"#(a.b) < 0", "#a.b < 0"},
		{"#(a->b) < 0", "#(a -> b) < 0"},
		{"lone a->(b->c)&d", "lone a -> (b -> c) & d"},
		{"one (a++b)++(c&d)", "one a ++ b ++ c & d"},
		{"some (a+b)&c", "some (a + b) & c"},
		{"some univ - iden", "some univ - iden"},
		{"some x:A|(true||false)", "some x: A | true || false"},
		{"not (all x: A | true)", "not all x: A | true"},
		{"not (all x: A | true) && false", "not (all x: A | true) && false"},
		{"(not (all x: A | true)) && false", "not (all x: A | true) && false"},
		{"true && (not (some x: A | true))", "true && not some x: A | true"},
		{"true && (some x: A | true) => false", "true && (some x: A | true) => false"},
		{"(all x: A | true) <=> (all x: A | true)", "(all x: A | true) <=> all x: A | true"},
		{"all x: A | (all y: A | true) && (all z: A | true)", "all x: A | (all y: A | true) && all z: A | true"},
		{"some {x: A|all y: A | true}", "some {x: A | all y: A | true}"},
		{"some {x: A|some x}' . b", "some {x: A | some x}'.b"},
		{"p[]&&q[a,b+c,{x: A|true}]", "p[] && q[a, b + c, {x: A | true}]"},
		{"(true && (all x: A | true)) || false", "true && (all x: A | true) || false"},
		{"(true || (all x: A | true)) && false", "(true || all x: A | true) && false"},
	} {
		got := Formula(parse(t, x.in))
		if got != x.want {
			t.Errorf("%q is printed as %q, not as %q", x.in, got, x.want)
		}
		if again := Formula(parse(t, got)); again != got {
			t.Errorf("%q is printed as %q", got, again)
		}
	}
}

// P3.1: trees of other kinds than formulas.
func TestExpressions(t *testing.T) {
	a := api.Node{Op: api.OpName, Name: "a"}
	lit := api.Node{Op: api.OpLit, N: -64}
	for _, x := range []struct {
		n    api.Node
		want string
	}{
		{a, "a"}, {lit, "-64"}, {api.Node{Op: api.OpNone, N: 3}, "none[3]"}, {api.Node{Op: api.OpNone, N: 1}, "none"},
		{api.Node{Op: api.OpPrime, Kids: []api.Node{a}}, "a'"},
		{api.Node{Op: api.OpSub, Kids: []api.Node{lit, {Op: api.OpSub, Kids: []api.Node{lit, lit}}}}, "-64 - (-64 - -64)"},
	} {
		if got := Formula(x.n); got != x.want {
			t.Errorf("%q, not %q", got, x.want)
		}
	}
	for _, n := range []api.Node{{Op: api.OpAnd}, {Op: api.OpAll, Name: "x"}, {Op: api.OpPrime}} {
		if got := Formula(n); got != "" {
			t.Errorf("%+v: %q", n, got)
		}
	}
}

// P3.2, P3.3, P3.4, P3.5 on sampled formulas.
func TestRandomFormulas(t *testing.T) {
	s := sample.New(1)
	last := api.Node{Op: api.OpTrue}
	for i := range 4000 {
		n := s.Tree('f', s.Between(1, 4+i%20))
		if sample.Count(n) > api.MaxNodes {
			continue
		}
		text := Formula(n)
		got := parse(t, text)
		if !EqualNodes(got, n) || !EqualNodes(n, got) || Formula(got) != text {
			t.Fatalf("%q is parsed to another tree, %q", text, Formula(got))
		}
		if EqualNodes(n, last) != (text == Formula(last)) {
			t.Fatalf("%q and %q", text, Formula(last))
		}
		last = n
		if len(text) < 300 {
			checkMinimal(t, n, text)
		}
	}
}

// checkMinimal checks that no pair of parentheses of a text can be left out.
func checkMinimal(t *testing.T, n api.Node, text string) {
	t.Helper()
	var open []int
	for i := range len(text) {
		switch text[i] {
		case '(':
			open = append(open, i)
		case ')':
			j := open[len(open)-1]
			open = open[:len(open)-1]
			less := text[:j] + " " + text[j+1:i] + " " + text[i+1:]
			if m, d := parser.ParseFormula(less); len(d) == 0 && EqualNodes(m, n) {
				t.Fatalf("%q is equal to %q", less, text)
			}
		}
	}
}

const specText = `sort A;
sort Thing ordered;
field f: A;
var field g: A -> Thing -> A;
pred p[] { true }
pred q[x: A, y: Thing] { (all z: A | x in z) && true }
fact a { p[] }
fact b { no f }
`

// P3.1, P3.2, P3.5: specifications.
func TestSpec(t *testing.T) {
	sp, d := parser.Parse(specText)
	if len(d) > 0 {
		t.Fatal(d)
	}
	if got := Spec(sp); got != specText {
		t.Errorf("%q", got)
	}
	again, _ := parser.Parse(strings.ReplaceAll(specText, " ", "\n "))
	if !EqualSpecs(sp, again) || !EqualSpecs(again, sp) {
		t.Error("offsets matter")
	}
	if Spec(api.Spec{}) != "" || !EqualSpecs(api.Spec{}, api.Spec{Sorts: []api.Sort{}, Fields: []api.Field{}, Preds: []api.Pred{}, Facts: []api.Fact{}}) {
		t.Error("empty specification")
	}
	if got := Spec(api.Spec{Fields: []api.Field{{Name: "f", Sorts: []int{1}}}}); got != "" {
		t.Errorf("sorts out of range: %q", got)
	}
	changes := []func(*api.Spec){
		func(x *api.Spec) { x.Sorts = x.Sorts[:1] },
		func(x *api.Spec) { x.Sorts[1].Ordered = false },
		func(x *api.Spec) { x.Sorts[0].Name = "B" },
		func(x *api.Spec) { x.Fields[0].Var = true },
		func(x *api.Spec) { x.Fields[0].Sorts[0] = 1 },
		func(x *api.Spec) { x.Fields[0].Name = "h" },
		func(x *api.Spec) { x.Fields[1].Sorts = x.Fields[1].Sorts[:2] },
		func(x *api.Spec) { x.Fields = x.Fields[1:] },
		func(x *api.Spec) { x.Preds[1].Params[0].Name = "z" },
		func(x *api.Spec) { x.Preds[1].Params[1].Sort = 0 },
		func(x *api.Spec) { x.Preds[1].Params = x.Preds[1].Params[:1] },
		func(x *api.Spec) { x.Preds[0].Name = "r" },
		func(x *api.Spec) { x.Preds[1].Body.Kids[1].Op = api.OpFalse },
		func(x *api.Spec) { x.Preds = x.Preds[:1] },
		func(x *api.Spec) { x.Facts[0].Name = "z" },
		func(x *api.Spec) { x.Facts[1].Body.Op = api.OpSome },
		func(x *api.Spec) { x.Facts[0], x.Facts[1] = x.Facts[1], x.Facts[0] },
	}
	for i, change := range changes {
		x, _ := parser.Parse(specText)
		change(&x)
		if EqualSpecs(sp, x) || EqualSpecs(x, sp) {
			t.Errorf("change %d is not noticed", i)
		}
	}
}

// P3.2: sampled specifications.
func TestRandomSpecs(t *testing.T) {
	s := sample.New(2)
	names := []string{"A", "B", "x_1", "abcdefghijklmnop"}
	for range 300 {
		var sp api.Spec
		for i := range s.Between(1, 4) {
			sp.Sorts = append(sp.Sorts, api.Sort{Name: names[i], Ordered: s.Chance(40)})
		}
		for range s.Between(0, 6) {
			f := api.Field{Name: sample.Pick(s, names), Var: s.Chance(40)}
			for range s.Between(1, 3) {
				f.Sorts = append(f.Sorts, s.Below(len(sp.Sorts)))
			}
			sp.Fields = append(sp.Fields, f)
		}
		for range s.Between(0, 8) {
			q := api.Pred{Name: sample.Pick(s, names), Body: s.Tree('f', 4)}
			for range s.Between(0, 3) {
				q.Params = append(q.Params, api.Param{Name: sample.Pick(s, names), Sort: s.Below(len(sp.Sorts))})
			}
			sp.Preds = append(sp.Preds, q)
		}
		for range s.Between(0, 16) {
			sp.Facts = append(sp.Facts, api.Fact{Name: sample.Pick(s, names), Body: s.Tree('f', 4)})
		}
		text := Spec(sp)
		got, d := parser.Parse(text)
		if len(text) <= 20000 && (len(d) > 0 || !EqualSpecs(got, sp) || Spec(got) != text) {
			t.Fatalf("%s\n%v", text, d)
		}
	}
}

// P3.5: what makes trees differ.
func TestEqualNodes(t *testing.T) {
	n := parse(t, "all x: A | p[x, none[2]] && 1 < 2")
	if !EqualNodes(n, parse(t, " all  x:A|p[x,none[2]]&&1<2")) || !EqualNodes(api.Node{Kids: []api.Node{}, At: 4}, api.Node{}) {
		t.Error("offsets matter")
	}
	for _, other := range []string{"some x: A | p[x, none[2]] && 1 < 2", "all y: A | p[x, none[2]] && 1 < 2", "all x: A | p[x, none] && 1 < 2",
		"all x: A | p[x] && 1 < 2", "all x: A | q[x, none[2]] && 1 < 2", "all x: A | p[x, none[2]] && 1 < 3", "all x: A | p[x, none[2]] || 1 < 2"} {
		if m := parse(t, other); EqualNodes(n, m) || EqualNodes(m, n) {
			t.Errorf("%q", other)
		}
	}
}
