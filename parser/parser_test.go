package parser

import (
	"reflect"
	"strconv"
	"strings"
	"testing"

	"armature/api"
	"armature/lexer"
	"armature/sample"
)

// ops names the operators in the trees that tests write down.
var ops = map[int]string{
	api.OpPrime: "prime", api.OpUnion: "union", api.OpInter: "inter", api.OpDiff: "diff", api.OpJoin: "join", api.OpProduct: "product",
	api.OpTranspose: "transpose", api.OpClosure: "closure", api.OpReflexive: "reflexive", api.OpOverride: "override", api.OpCompr: "compr",
	api.OpCard: "card", api.OpAdd: "add", api.OpSub: "sub", api.OpTrue: "true", api.OpFalse: "false", api.OpIn: "in", api.OpEqual: "equal",
	api.OpSome: "some", api.OpNo: "no", api.OpOne: "one", api.OpLone: "lone", api.OpIntEq: "inteq", api.OpLess: "less", api.OpNot: "not",
	api.OpAnd: "and", api.OpOr: "or", api.OpImplies: "implies", api.OpIff: "iff", api.OpAll: "all", api.OpExists: "exists", api.OpCall: "call",
	api.OpAlways: "always", api.OpEventual: "eventual", api.OpAfter: "after", api.OpUntil: "until", api.OpUniv: "univ", api.OpIden: "iden",
	api.OpNone: "none",
}

// show writes a tree as operator@offset(kids).
func show(n api.Node, offsets bool) string {
	head := ops[n.Op]
	switch n.Op {
	case api.OpName:
		head = n.Name
	case api.OpLit:
		head = strconv.Itoa(n.N)
	case api.OpNone:
		head += strconv.Itoa(n.N)
	case api.OpCall, api.OpAll, api.OpExists, api.OpCompr:
		head += " " + n.Name
	}
	if offsets {
		head += "@" + strconv.Itoa(n.At)
	}
	var kids []string
	for _, kid := range n.Kids {
		kids = append(kids, show(kid, offsets))
	}
	if len(kids) == 0 {
		return head
	}
	return head + "(" + strings.Join(kids, ", ") + ")"
}

// P2.1, P2.4: trees of formulas.
func TestFormulas(t *testing.T) {
	for _, x := range []struct{ in, want string }{
		{"no a & b.c", "no(inter(a, join(b, c)))"},
		{"#a.b + 1 < 3", "less(add(card(join(a, b)), 1), 3)"},
		{"all x: A | x in f => no x.f", "all x(A, implies(in(x, f), no(join(x, f))))"},
		{"true <=> false <=> true", "iff(iff(true, false), true)"},
		{"true => false => true", "implies(true, implies(false, true))"},
		{"true until false until true", "until(true, until(false, true))"},
		{"true || false && true || false", "or(or(true, and(false, true)), false)"},
		{"true && false until true", "and(true, until(false, true))"},
		{"not true until false", "until(not(true), false)"},
		{"not a in b && true", "and(not(in(a, b)), true)"},
		{"always eventually after not true", "always(eventual(after(not(true))))"},
		{"true && not false || true", "or(and(true, not(false)), true)"},
		{"a - b - c = d", "equal(diff(diff(a, b), c), d)"},
		{"a + b ++ c & d -> e . f in z", "in(union(a, override(b, inter(c, product(d, join(e, f))))), z)"},
		{"a . b -> c & d ++ e + f in z", "in(union(override(inter(product(join(a, b), c), d), e), f), z)"},
		{"a ++ b ++ c in a & b & c", "in(override(override(a, b), c), inter(inter(a, b), c))"},
		{"a -> b -> c in a.b.c", "in(product(product(a, b), c), join(join(a, b), c))"},
		{"a != b", "not(equal(a, b))"},
		{"1 != 2", "not(inteq(1, 2))"},
		{"1 = 2", "inteq(1, 2)"},
		{"1 <= 2 - 3 + 4", "not(less(add(sub(2, 3), 4), 1))"},
		{"-1 - -64 = #a", "inteq(sub(-1, -64), card(a))"},
		{"- 1 = 64", "inteq(-1, 64)"},
		{"-0 = 0", "inteq(0, 0)"},
		{"some ~^*a'", "some(transpose(closure(reflexive(prime(a)))))"},
		{"some ~a.b", "some(join(transpose(a), b))"},
		{"some a.~b", "some(join(a, transpose(b)))"},
		{"some a''", "some(prime(prime(a)))"},
		{"some (a.b)'", "some(prime(join(a, b)))"},
		{"some {x: A | some x}'", "some(prime(compr x(A, some(x))))"},
		{"#a -1 = 2", "inteq(sub(card(a), 1), 2)"},
		{"one none && lone none[1] || no none[2] <=> some none[3]", "iff(or(and(one(none1), lone(none1)), no(none2)), some(none3))"},
		{"univ = iden", "equal(univ, iden)"},
		{"some x: A | p[x, A + x] && q[]", "exists x(A, and(call p(x, union(A, x)), call q))"},
		{"some x", "some(x)"},
		{"some x.y", "some(join(x, y))"},
		{"true && some x: A | true || false", "and(true, exists x(A, or(true, false)))"},
		{"(all x: A | true) && false", "and(all x(A, true), false)"},
		{"all x: A + B | all y: x.f | true", "all x(union(A, B), all y(join(x, f), true))"},
		{"((true))", "true"},
		{"not all x: A | true => false", "not(all x(A, implies(true, false)))"},
		{"no {x: A | true && false} & b", "no(inter(compr x(A, and(true, false)), b))"},
		{"sorted in all_ // x", "in(sorted, all_)"},
	} {
		n, d := ParseFormula(x.in)
		if got := show(n, false); len(d) > 0 || got != x.want {
			t.Errorf("ParseFormula(%q) = %s, %v", x.in, got, d)
		}
	}
}

// P2.1: offsets of nodes.
func TestOffsets(t *testing.T) {
	for _, x := range []struct{ in, want string }{
		{" a != b", "not@3(equal@3(a@1, b@6))"},
		{"1 <= - 2", "not@2(less@2(-2@5, 1@0))"},
		{"some {x: A | no x''}", "some@0(compr x@5(A@9, no@13(prime@18(prime@17(x@16)))))"},
		{"all x: A | p[ x ]", "all x@0(A@7, call p@11(x@14))"},
		{"some x: A | true", "exists x@0(A@8, true@12)"},
		{"no none[2] . ~a", "no@0(join@11(none2@3, transpose@13(a@14)))"},
		{"( # a ) < 1", "less@8(card@2(a@4), 1@10)"},
	} {
		n, d := ParseFormula(x.in)
		if got := show(n, true); len(d) > 0 || got != x.want {
			t.Errorf("ParseFormula(%q) = %s, %v", x.in, got, d)
		}
	}
}

// P2.1: the first diagnostic of a formula.
func TestDiagnostics(t *testing.T) {
	for _, x := range []struct {
		in string
		e  api.Errno
		at int
	}{
		{"", api.ErrEnd, 0}, {" // x", api.ErrEnd, 5}, {"a @", api.ErrToken, 2}, {strings.Repeat(" ", 20001), api.ErrLimit, 0},
		{"a = #b", api.ErrKind, 2}, {"a = b = c", api.ErrSyntax, 6}, {"a in b in", api.ErrSyntax, 7}, {"a = b < c", api.ErrSyntax, 6},
		{"not a = b = c", api.ErrKind, 10}, {"all x: a | b = c = d", api.ErrKind, 17}, {"not a = b = )", api.ErrSyntax, 12},
		{"some a = b", api.ErrKind, 7}, {"true && a = b = c", api.ErrSyntax, 14}, {"true && not a = b = c", api.ErrKind, 18},
		{"(a = b = c)", api.ErrSyntax, 7}, {"true => a = b != c", api.ErrSyntax, 14}, {"a = not b = c", api.ErrKind, 2},
		{"a", api.ErrKind, 0}, {"a b", api.ErrKind, 0}, {"1 + 2", api.ErrKind, 0}, {" (a) )", api.ErrKind, 1}, {"true true", api.ErrSyntax, 5},
		{"true )", api.ErrSyntax, 5}, {"true &&", api.ErrEnd, 7}, {"(true", api.ErrEnd, 5}, {"(true ", api.ErrEnd, 6}, {"not", api.ErrEnd, 3},
		{"true && )", api.ErrSyntax, 8}, {"()", api.ErrSyntax, 1}, {"in a", api.ErrSyntax, 0}, {"sort", api.ErrSyntax, 0}, {"a = until", api.ErrSyntax, 4},
		{"some a + 1", api.ErrKind, 7}, {"some 1", api.ErrKind, 0}, {"not a", api.ErrKind, 0}, {"# 1 = 1", api.ErrKind, 0}, {"some ~1", api.ErrKind, 5},
		{"true'", api.ErrKind, 4}, {"1' = 1", api.ErrKind, 1}, {"some p[]'", api.ErrKind, 8}, {"some p[]", api.ErrKind, 0}, {"true = true", api.ErrKind, 5},
		{"a < b", api.ErrKind, 2}, {"1 in 2", api.ErrKind, 2}, {"1 & 2 = 3", api.ErrKind, 2}, {"a && b", api.ErrKind, 2}, {"1 <= a", api.ErrKind, 2},
		{"true until a", api.ErrKind, 5}, {"#a -> b = 1", api.ErrKind, 3}, {"a != 1", api.ErrKind, 2}, {"1 + a = 1 @", api.ErrToken, 10},
		{"1 + a = 1 )", api.ErrKind, 2}, {"p[1 2]", api.ErrSyntax, 4}, {"p[1]", api.ErrKind, 0}, {"p[1]]", api.ErrKind, 0}, {"p[a = b]", api.ErrSyntax, 4},
		{"p[a,]", api.ErrSyntax, 4}, {"p[,]", api.ErrSyntax, 2}, {"p[a", api.ErrEnd, 3}, {"p[", api.ErrEnd, 2}, {"p[a b]", api.ErrSyntax, 4},
		{"1 = 65", api.ErrLimit, 4}, {"1 = -65", api.ErrLimit, 5}, {"1 = - 65", api.ErrLimit, 6}, {"1 = -a", api.ErrSyntax, 5}, {"1 = -", api.ErrEnd, 5},
		{"1 = --1", api.ErrSyntax, 5}, {"no none[0]", api.ErrSyntax, 8}, {"no none[4]", api.ErrSyntax, 8}, {"no none[a]", api.ErrSyntax, 8},
		{"no none[2", api.ErrEnd, 9}, {"no none[2)", api.ErrSyntax, 9}, {"no none[", api.ErrEnd, 8}, {"no none []", api.ErrSyntax, 9},
		{"all x A | true", api.ErrSyntax, 6}, {"all in: A | true", api.ErrSyntax, 4}, {"all x: A true", api.ErrSyntax, 9}, {"all x: A | ", api.ErrEnd, 11},
		{"all x: A = B | true", api.ErrSyntax, 9}, {"all x: 1 | true", api.ErrKind, 0}, {"all x: 1 | true )", api.ErrKind, 0}, {"all x: 1 | )", api.ErrSyntax, 11},
		{"all x: A | x", api.ErrKind, 0}, {"some x: A | x", api.ErrKind, 0}, {"no {x: A | x @", api.ErrToken, 13}, {"no {x: A | x ;", api.ErrKind, 3},
		{"no {x: A | true ;", api.ErrSyntax, 16}, {"no {x: A | true", api.ErrEnd, 15}, {"{x: A | true}", api.ErrKind, 0}, {"no {1: A | true}", api.ErrSyntax, 4},
		{"some x:", api.ErrEnd, 7}, {"some some: A | true", api.ErrSyntax, 9}, {"some in", api.ErrSyntax, 5}, {"all", api.ErrEnd, 3}, {"a;", api.ErrKind, 0},
		{"true;", api.ErrSyntax, 4}, {"a ! b", api.ErrToken, 2}, {"a > b", api.ErrToken, 2},
	} {
		n, d := ParseFormula(x.in)
		if !reflect.DeepEqual(n, api.Node{}) || len(d) != 1 || d[0] != (api.Diagnostic{Err: x.e, At: x.at}) {
			t.Errorf("ParseFormula(%.40q) = %s, %v", x.in, show(n, false), d)
		}
	}
}

// P2.1: limits of nesting, size and depth.
func TestLimits(t *testing.T) {
	rep := strings.Repeat
	for _, x := range []struct {
		in string
		e  api.Errno
		at int
	}{
		{rep("(", 99) + "true" + rep(")", 99), api.OK, 0},
		{rep("(", 100) + "true" + rep(")", 100), api.ErrLimit, 100},
		{rep("(", 100) + ")", api.ErrLimit, 100},
		{rep("(", 100), api.ErrEnd, 100},
		{rep("(", 99), api.ErrEnd, 99},
		{rep("(", 98) + "not true" + rep(")", 98), api.OK, 0},
		{rep("(", 99) + "not true" + rep(")", 99), api.ErrLimit, 103},
		{rep("(", 99) + "true && true" + rep(")", 99), api.ErrLimit, 107},
		{rep("(", 98) + "true && true && true" + rep(")", 98), api.OK, 0},
		{rep("(", 99) + "p[]" + rep(")", 99), api.OK, 0},
		{rep("(", 99) + "p[a]" + rep(")", 99), api.ErrLimit, 101},
		{rep("(", 99) + "all x: A | true", api.ErrLimit, 106},
		{rep("(", 98) + "p[a, b]" + rep(")", 98), api.OK, 0},
		{rep("(", 98) + "p[(a)]", api.ErrLimit, 101},
		{rep("(", 99) + "some a''" + rep(")", 99), api.ErrLimit, 104},
		{rep("not ", 23) + "true", api.OK, 0},
		{" " + rep("not ", 24) + "true", api.ErrLimit, 1},
		{rep("not ", 24) + "true )", api.ErrLimit, 0},
		{rep("not ", 99) + "true", api.ErrLimit, 0},
		{rep("not ", 100) + "true", api.ErrLimit, 400},
		{"some a" + rep("+ a", 21), api.OK, 0},
		{"some a" + rep("+ a", 23), api.ErrLimit, 0},
		{"some a" + rep("+ a", 3000), api.ErrLimit, 0},
		{"some a" + rep("+ a", 3000) + "+ 1", api.ErrKind, 9006},
		{wide(198), api.OK, 0},
		{wide(199) + ")", api.ErrLimit, 0},
	} {
		_, d := ParseFormula(x.in)
		if x.e == api.OK && len(d) > 0 || x.e != api.OK && (len(d) != 1 || d[0] != (api.Diagnostic{Err: x.e, At: x.at})) {
			t.Errorf("ParseFormula(%.120q) = %v", x.in, d)
		}
	}
}

// wide returns a call with n arguments, each of which is a prime and a name, so that it has 2n+1 nodes, with one more node for the last argument.
func wide(n int) string {
	return "p[" + strings.Repeat("a',", n) + "a''" + "]"
}

// full writes a tree with parentheses around every operand.
func full(n api.Node) string {
	kid := func(i int) string { return "(" + full(n.Kids[i]) + ")" }
	infix := map[int]string{api.OpUnion: "+", api.OpInter: "&", api.OpDiff: "-", api.OpJoin: ".", api.OpProduct: "->", api.OpOverride: "++",
		api.OpAdd: "+", api.OpSub: "-", api.OpIn: "in", api.OpEqual: "=", api.OpIntEq: "=", api.OpLess: "<", api.OpAnd: "&&", api.OpOr: "||",
		api.OpImplies: "=>", api.OpIff: "<=>", api.OpUntil: "until"}
	prefix := map[int]string{api.OpTranspose: "~", api.OpClosure: "^", api.OpReflexive: "*", api.OpCard: "#", api.OpSome: "some", api.OpNo: "no",
		api.OpOne: "one", api.OpLone: "lone", api.OpNot: "not", api.OpAlways: "always", api.OpEventual: "eventually", api.OpAfter: "after",
		api.OpAll: "all", api.OpExists: "some"}
	switch n.Op {
	case api.OpName:
		return n.Name
	case api.OpNone:
		return "none[" + strconv.Itoa(n.N) + "]"
	case api.OpUniv, api.OpIden, api.OpTrue, api.OpFalse:
		return ops[n.Op]
	case api.OpLit:
		return strconv.Itoa(n.N)
	case api.OpPrime:
		return kid(0) + "'"
	case api.OpAll, api.OpExists:
		return prefix[n.Op] + " " + n.Name + ": " + kid(0) + " | " + kid(1)
	case api.OpCompr:
		return "{" + n.Name + ": " + kid(0) + " | " + kid(1) + "}"
	case api.OpCall:
		var l []string
		for i := range n.Kids {
			l = append(l, kid(i))
		}
		return n.Name + "[" + strings.Join(l, ", ") + "]"
	}
	if len(n.Kids) == 1 {
		return prefix[n.Op] + " " + kid(0)
	}
	return kid(0) + " " + infix[n.Op] + " " + kid(1)
}

// P2.2, P2.3, P2.5: formulas with all parentheses, and with other space between the tokens.
func TestParentheses(t *testing.T) {
	s := sample.New(1)
	for range 3000 {
		n := s.Tree('f', s.Between(1, 8))
		if sample.Count(n) > api.MaxNodes {
			continue
		}
		text := full(n)
		got, d := ParseFormula(text)
		if len(d) > 0 || show(got, false) != show(n, false) || !ValidNode(got) {
			t.Fatalf("ParseFormula(%q) = %s, %v", text, show(got, false), d)
		}
		tokens, _, _ := lexer.Lex(text)
		var b strings.Builder
		for _, x := range tokens {
			b.WriteString(sample.Pick(s, []string{" ", "\n", "//\n", "\t "}) + x.Text)
		}
		again, d := ParseFormula(b.String())
		if len(d) > 0 || show(again, false) != show(n, false) {
			t.Fatalf("ParseFormula(%q) = %s, %v", b.String(), show(again, false), d)
		}
	}
}

// P2.4: any two infix operators group by level, and those of one level by their associativity.
func TestPrecedence(t *testing.T) {
	level := map[string]int{"<=>": 1, "=>": 2, "||": 3, "&&": 4, "until": 5, "+": 8, "-": 8, "++": 9, "&": 10, "->": 11, ".": 12}
	for a, la := range level {
		for b, lb := range level {
			x, y, z := "x", "y", "z"
			wrap := "no "
			if la < 6 {
				x, y, z, wrap = "true", "p[]", "q[]", ""
			}
			if la < 6 != (lb < 6) {
				continue
			}
			left := wrap + "((" + x + a + y + ")" + b + z + ")"
			right := wrap + "(" + x + a + "(" + y + b + z + "))"
			want := right
			if la > lb || la == lb && la != 2 && la != 5 {
				want = left
			}
			spaced := wrap + "(" + x + " " + a + " " + y + " " + b + " " + z + ")"
			left, want = strings.ReplaceAll(left, "until", " until "), strings.ReplaceAll(want, "until", " until ")
			n, d := ParseFormula(spaced)
			m, e := ParseFormula(want)
			if len(d)+len(e) > 0 || show(n, false) != show(m, false) {
				t.Errorf("%s is parsed as %s, not as %s (%v, %v)", spaced, show(n, false), show(m, false), d, e)
			}
		}
	}
}

// P2.1: declarations.
func TestSpec(t *testing.T) {
	sp, d := Parse(`sort A; sort B ordered; // sorts
field f: A; var field g: A -> B -> A;
pred p[] { true } pred q[x: A, x: B] { some x }
fact a { p[] } sort A; field f: A; fact a { no f }`)
	if len(d) > 0 {
		t.Fatal(d)
	}
	want := api.Spec{
		Sorts:  []api.Sort{{Name: "A"}, {Name: "B", Ordered: true}, {Name: "A"}},
		Fields: []api.Field{{Name: "f", Sorts: []int{0}}, {Name: "g", Sorts: []int{0, 1, 0}, Var: true}, {Name: "f", Sorts: []int{2}}},
		Preds:  []api.Pred{{Name: "p"}, {Name: "q", Params: []api.Param{{Name: "x", Sort: 0}, {Name: "x", Sort: 1}}}},
		Facts:  []api.Fact{{Name: "a"}, {Name: "a"}},
	}
	bodies := show(sp.Preds[0].Body, true) + show(sp.Preds[1].Body, true) + show(sp.Facts[0].Body, true) + show(sp.Facts[1].Body, true)
	if bodies != "true@82some@110(x@115)call p@128no@163(f@166)" {
		t.Error(bodies)
	}
	for i := range sp.Preds {
		sp.Preds[i].Body = api.Node{}
	}
	for i := range sp.Facts {
		sp.Facts[i].Body = api.Node{}
	}
	if !reflect.DeepEqual(sp, want) {
		t.Errorf("%+v", sp)
	}
	if sp, d := Parse(" // nothing"); !reflect.DeepEqual(sp, api.Spec{}) || len(d) > 0 {
		t.Errorf("%+v, %v", sp, d)
	}
}

// P2.1, P2.6: diagnostics of declarations, and where reading goes on.
func TestRecovery(t *testing.T) {
	rep := strings.Repeat
	d := func(l ...int) []api.Diagnostic {
		var out []api.Diagnostic
		for i := 0; i < len(l); i += 2 {
			out = append(out, api.Diagnostic{Err: api.Errno(l[i]), At: l[i+1]})
		}
		return out
	}
	sorts := "sort A; sort B; sort C; sort D; "
	for _, x := range []struct {
		in   string
		want []api.Diagnostic
	}{
		{"sort A; @", d(10, 8)},
		{"sort 1; sort A", d(20, 5, 21, 14)},
		{"sort in; sort A B; sort A ordered ordered; sort A ordered;", d(20, 5, 20, 16, 20, 34)},
		{"foo bar; sort A; } ;", d(20, 0, 20, 17, 20, 19)},
		{"field f: A; sort A; field g: A -> B; field h: A;", d(40, 9, 40, 34)},
		{"sort A; field f: ; field f A; field : A; field f: A -> A -> A -> A; field f: A ->", d(20, 17, 20, 27, 20, 36, 20, 62, 21, 81)},
		{"sort A; var f: A; var", d(20, 12, 21, 21)},
		{"sort A ordered; fact f { } fact g { true", d(20, 25, 21, 40)},
		{"fact f { a } fact g { true } fact { true } fact h true }", d(43, 9, 20, 34, 20, 50)},
		{"fact f { a = b = c } fact g { true } }", d(20, 15, 20, 37)},
		{"fact f { {x: A | x} in y } fact g { true }", d(43, 9, 20, 20)},
		{"fact f { p[{x: A | x}] } fact g { 1 }", d(43, 11, 20, 21, 43, 34)},
		{"fact f { some x + 1 } fact g { true }", d(43, 16)},
		{"fact f { true ; } fact g { true }", d(20, 14, 20, 16)},
		{"sort A; pred p[x: A,] { true } pred q[x: B] { true } pred r[x: A; y: A] { true }", d(20, 20, 40, 41, 20, 64, 20, 66)},
		{"pred p { true } pred [] { true } pred p[] true pred p[ { true }", d(20, 7, 20, 21, 20, 42)},
		{sorts + "sort E; sort 1", d(2, 32, 2, 40)},
		{sorts + "sort 1 ordered; fact f { no D }", d(2, 32)},
		{"sort A;" + rep("field f: A;", 6) + "var 1; field 1; field g: A;", d(2, 73, 2, 80, 2, 89)},
		{rep("pred p[] { true } ", 8) + "pred 1 }", d(2, 144)},
		{rep("fact p { true } ", 16) + "fact 1 } fact p { true }", d(2, 256, 2, 265)},
		{"sort 1; " + sorts, d(20, 5)},
		{"sort A; sort A; sort A; sort 1; sort A; field f: A;", d(20, 29)},
		{rep("x;", 19) + "sort A", d(20, 0, 20, 2, 20, 4, 20, 6, 20, 8, 20, 10, 20, 12, 20, 14, 20, 16, 20, 18, 20, 20, 20, 22, 20, 24, 20, 26, 20, 28, 20, 30, 20, 32, 20, 34, 20, 36, 21, 44)},
		{"fact f { " + rep("(", 100) + "} sort A; fact g { " + rep("(", 99) + "true" + rep(")", 99) + " }", d(2, 109)},
		{"fact f { " + rep("not ", 24) + "true } sort 1;", d(2, 9, 20, 117)},
		{"fact f { 65 < 1 } fact g { true", d(2, 9, 21, 31)},
	} {
		sp, got := Parse(x.in)
		if !reflect.DeepEqual(sp, api.Spec{}) || !reflect.DeepEqual(got, x.want) {
			t.Errorf("Parse(%.80q) = %v, not %v", x.in, got, x.want)
		}
	}
	if _, got := Parse(rep("x;", 30) + "@"); len(got) != 1 || got[0].Err != api.ErrToken {
		t.Errorf("an error of the lexer is not alone: %v", got)
	}
	if _, got := Parse(rep("x;", 30)); len(got) != 20 {
		t.Errorf("%d diagnostics", len(got))
	}
}

// P2.6: concatenations, and a malformed declaration between others.
func TestDeclarations(t *testing.T) {
	a := "sort A; field f: A -> A; fact x { some f } "
	b := "sort B; var field g: B; pred p[y: B] { y in g } fact z { true }"
	x, _ := Parse(a)
	y, _ := Parse(b)
	both, d := Parse(a + b)
	if len(d) > 0 || len(both.Sorts) != 2 || len(both.Fields) != 2 || len(both.Preds) != 1 || len(both.Facts) != 2 {
		t.Fatalf("%+v, %v", both, d)
	}
	if both.Fields[1].Sorts[0] != 1 || both.Preds[0].Params[0].Sort != 1 || both.Fields[0].Name != x.Fields[0].Name ||
		show(both.Preds[0].Body, false) != show(y.Preds[0].Body, false) || show(both.Facts[0].Body, false) != show(x.Facts[0].Body, false) {
		t.Errorf("%+v", both)
	}
	for _, bad := range []string{"sort;", "field g A;", "pred p[] { some }", "fact z { a = b = c }", "nonsense }"} {
		_, d := Parse(a + bad + " " + b)
		if len(d) != 1 || d[0].At < len(a) || d[0].At >= len(a)+len(bad) {
			t.Errorf("%q: %v", bad, d)
		}
	}
}

// P2.1: ValidNode accepts sampled trees, and rejects each way of being malformed.
func TestValidNode(t *testing.T) {
	leaf := func(op int) api.Node { return api.Node{Op: op} }
	name := func(s string) api.Node { return api.Node{Op: api.OpName, Name: s, At: -7} }
	node := func(op int, kids ...api.Node) api.Node { return api.Node{Op: op, Kids: kids} }
	lit := func(n int) api.Node { return api.Node{Op: api.OpLit, N: n} }
	compr := api.Node{Op: api.OpCompr, Name: "x", Kids: []api.Node{name("A"), leaf(api.OpTrue)}}
	good := []api.Node{name("a"), name("abcdefghijklmnop"), name("A_1"), name("z"), name("Z"), name("Az0"), name("Zz9"), leaf(api.OpUniv), leaf(api.OpIden), {Op: api.OpNone, N: 1}, {Op: api.OpNone, N: 3},
		lit(64), lit(-64), leaf(api.OpTrue), {Op: api.OpCall, Name: "p"}, node(api.OpUnion, name("a"), compr), node(api.OpLess, lit(1), node(api.OpCard, compr))}
	for _, n := range good {
		if !ValidNode(n) {
			t.Errorf("%s is not valid", show(n, false))
		}
	}
	bad := []api.Node{{}, leaf(-1), leaf(16), leaf(24), leaf(52), name(""), name("abcdefghijklmnopq"), name("in"), name("1a"), name("_a"), name("a-b"), name("a "),
		{Op: api.OpUniv, Name: "a"}, {Op: api.OpNone}, {Op: api.OpNone, N: 4}, {Op: api.OpNone, N: -1}, lit(65), lit(-65), {Op: api.OpTrue, N: 1},
		{Op: api.OpName, Name: "a", N: 1}, node(api.OpTrue, name("a")), node(api.OpUnion, name("a")), node(api.OpUnion, name("a"), lit(1)),
		node(api.OpUnion, name("a"), name("b"), name("c")), node(api.OpNot, name("a")), node(api.OpSome, leaf(api.OpTrue)), node(api.OpCard, lit(1)),
		node(api.OpAdd, lit(1), name("a")), node(api.OpAll, name("A"), leaf(api.OpTrue)), {Op: api.OpAll, Name: "all", Kids: compr.Kids},
		{Op: api.OpCompr, Name: "x", Kids: []api.Node{leaf(api.OpTrue), name("A")}}, {Op: api.OpCall, Name: "p", Kids: []api.Node{lit(1)}},
		{Op: api.OpCall}, node(api.OpNot, leaf(52)), node(api.OpNot, node(api.OpSome, name("no"))), node(api.OpPrime), {Op: api.OpName, Name: "a", Kids: []api.Node{name("b")}}}
	for _, n := range bad {
		if ValidNode(n) {
			t.Errorf("%+v is valid", n)
		}
	}
	deep := leaf(api.OpTrue)
	for i := 2; i <= 60000; i++ {
		deep = node(api.OpNot, deep)
		if got := i <= 24; i < 30 && ValidNode(deep) != got {
			t.Errorf("%d levels: valid is %t", i, !got)
		}
	}
	if ValidNode(deep) {
		t.Error("60000 levels are valid")
	}
	wide := api.Node{Op: api.OpCall, Name: "p", Kids: make([]api.Node, 399)}
	for i := range wide.Kids {
		wide.Kids[i] = leaf(api.OpUniv)
	}
	if !ValidNode(wide) {
		t.Error("400 nodes are not valid")
	}
	wide.Kids = append(wide.Kids, leaf(api.OpUniv))
	if ValidNode(wide) {
		t.Error("401 nodes are valid")
	}
}

// P1: no text makes the parser fail, and what it accepts is valid (P2.2).
func TestArbitraryTexts(t *testing.T) {
	s := sample.New(2)
	words := strings.Fields("sort A ; field f : A -> A ; var pred p [ x : A ] { } fact some all no x | true && = in not 1 - none [ 2 ] ( ) ' # until until + in")
	for range 30000 {
		var b strings.Builder
		for range s.Between(1, 14) {
			b.WriteString(sample.Pick(s, words) + " ")
		}
		n, d := ParseFormula(b.String())
		if len(d) > 1 || len(d) == 0 && (!ValidNode(n) || kindOf(n.Op) != formulaKind) {
			t.Fatalf("ParseFormula(%q) = %s, %v", b.String(), show(n, false), d)
		}
		sp, d := Parse(b.String())
		if len(d) > 0 && !reflect.DeepEqual(sp, api.Spec{}) {
			t.Fatalf("Parse(%q) = %+v, %v", b.String(), sp, d)
		}
	}
}
