package minscope_test

import (
	"reflect"
	"slices"
	"testing"

	"armature/api"
	"armature/bounds"
	"armature/core"
	"armature/minscope"
	"armature/parser"
	"armature/printer"
	"armature/sample"
)

func spec(t *testing.T, text string) api.Spec {
	t.Helper()
	sp, d := parser.Parse(text)
	if len(d) > 0 {
		t.Fatalf("%q: %v", text, d)
	}
	return sp
}

func formula(t *testing.T, text string) api.Node {
	t.Helper()
	n, d := parser.ParseFormula(text)
	if len(d) > 0 {
		t.Fatalf("%q: %v", text, d)
	}
	return n
}

func scope(steps int, atoms ...int) api.Scope { return api.Scope{Atoms: atoms, Steps: steps} }

func equal(a, b api.Scope) bool { return slices.Equal(a.Atoms, b.Atoms) && a.Steps == b.Steps }

// P32.1, P32.2: all scopes in order.
func TestOrder(t *testing.T) {
	want := []api.Scope{scope(3, 1, 1), scope(3, 1, 2), scope(3, 2, 1), scope(3, 1, 3), scope(3, 2, 2), scope(3, 3, 1), scope(3, 2, 3), scope(3, 3, 2), scope(3, 3, 3)}
	if got := minscope.Order(scope(3, 3, 3)); !slices.EqualFunc(got, want, equal) {
		t.Error(got)
	}
	if got := minscope.Order(scope(2)); !slices.EqualFunc(got, []api.Scope{scope(2)}, equal) {
		t.Error(got)
	}
	for _, bad := range []api.Scope{scope(0, 1), scope(5, 1), scope(1, 0), scope(1, 6), scope(1, -1), scope(1, 1, 1, 1, 1, 1), scope(1, 5, 5, 3), {}} {
		if got := minscope.Order(bad); got != nil {
			t.Errorf("Order(%v) = %v", bad, got)
		}
	}
	for _, max := range []api.Scope{scope(1, 5), scope(4, 2, 3, 1), scope(1, 3, 3, 3, 3), scope(2, 5, 5, 2)} {
		got := minscope.Order(max)
		product := 1
		for _, size := range max.Atoms {
			product *= size
		}
		if len(got) != product || !equal(got[len(got)-1], max) {
			t.Fatalf("Order(%v) has %d elements", max, len(got))
		}
		for i, sc := range got {
			for j, other := range got {
				smaller := true
				for k := range sc.Atoms {
					smaller = smaller && other.Atoms[k] <= sc.Atoms[k]
				}
				if less := compare(other, sc) < 0; less != (j < i) || smaller && j > i || sc.Steps != max.Steps {
					t.Fatalf("Order(%v): %v and %v", max, sc, other)
				}
			}
		}
	}
	got := minscope.Order(scope(1, 2, 2))
	got[0].Atoms[0] = 9
	if got[1].Atoms[0] != 1 {
		t.Error("Order shares memory")
	}
}

// compare orders scopes with the same steps.
func compare(a, b api.Scope) int {
	total := 0
	for i := range a.Atoms {
		total += a.Atoms[i] - b.Atoms[i]
	}
	if total != 0 {
		return total
	}
	return slices.Compare(a.Atoms, b.Atoms)
}

// P32.1: the examples of the chapter, errors, and growing sorts.
func TestExamples(t *testing.T) {
	sp := spec(t, "sort A; field f: A;")
	two := spec(t, "sort A; sort B; field f: A -> B; fact a { all x: A | one x . f }")
	for i, x := range []struct {
		sp   api.Spec
		max  api.Scope
		in   string
		want api.Scope
		e    api.Errno
	}{
		{sp, scope(1, 3), "some f", scope(1, 1), 0}, {sp, scope(1, 3), "#f = 2", scope(1, 2), 0}, {sp, scope(1, 3), "#f = 4", api.Scope{}, 270}, {sp, scope(1, 4), "#f = 4", scope(1, 4), 0}, {sp, scope(1, 3), "some nothing", api.Scope{}, 40},
		{two, scope(2, 3, 3), "not lone A . f", scope(2, 2, 2), 0}, {two, scope(1, 3, 3), "all y: B | not lone f . y", scope(1, 2, 1), 0}, {two, scope(1, 3, 3), "#B = 2", scope(1, 1, 2), 0}, {two, scope(1, 3, 3), "#A + #B = 4", scope(1, 1, 3), 0},
		{two, scope(1, 3, 3), "#A = 4", api.Scope{}, 270}, {api.Spec{}, scope(1), "true", scope(1), 0}, {api.Spec{}, scope(1), "some univ", api.Scope{}, 270},
	} {
		got, e := minscope.Least(x.sp, x.max, formula(t, x.in))
		if e != x.e || !equal(got, x.want) {
			t.Errorf("case %d: %v, %d", i, got, e)
		}
	}
	for i, x := range []struct {
		sc   api.Scope
		in   string
		want []int
		e    api.Errno
	}{
		{scope(1, 1, 1), "#B = 2", []int{1}, 0}, {scope(1, 1, 1), "#A + #B = 3", []int{0, 1}, 0}, {scope(1, 1, 1), "false", nil, 0}, {scope(1, 1, 5), "true", []int{0}, 0}, {scope(1, 5, 5), "true", nil, 0}, {scope(1, 1, 1), "some nothing", nil, 40},
		{scope(1, 5, 5), "some nothing", nil, 0},
	} {
		got, e := minscope.Growing(two, x.sc, formula(t, x.in))
		if e != x.e || !slices.Equal(got, x.want) {
			t.Errorf("case %d: %v, %d", i, got, e)
		}
	}
	full := spec(t, "sort A; sort B; sort C;")
	if got, e := minscope.Growing(full, scope(1, 5, 5, 2), formula(t, "true")); len(got) != 0 || e != api.OK {
		t.Error(got, e)
	}
	if got, e := minscope.Growing(full, scope(1, 4, 5, 2), formula(t, "true")); !slices.Equal(got, []int{0, 2}) || e != api.OK {
		t.Error(got, e)
	}
	large := spec(t, "sort A; field f: A -> A -> A; field g: A -> A -> A;")
	if got, e := minscope.Least(large, scope(1, 5), formula(t, "some f && 64 < #(f - g) + #(g - f)")); e != api.ErrLimit || !reflect.DeepEqual(got, api.Scope{}) {
		t.Errorf("a formula that is too large: %v, %d", got, e)
	}
}

// P32.3 to P32.6 on sampled problems.
func TestRandom(t *testing.T) {
	s := sample.New(1)
	late := 0
	for range 150 {
		sp := s.Spec(sample.Size{Sorts: 2, Fields: 2, Arity: 2, Facts: 1, Levels: 3, Temporal: true})
		f, g := s.Formula(sp, nil, 4, true), s.Formula(sp, nil, 3, true)
		if s.Chance(50) {
			size := api.Node{Op: api.OpCard, Kids: []api.Node{{Op: api.OpName, Name: sample.Pick(s, sp.Sorts).Name}}}
			more := api.Node{Op: api.OpLess, Kids: []api.Node{{Op: api.OpLit, N: s.Between(0, 2)}, size}}
			f = api.Node{Op: api.OpAnd, Kids: []api.Node{more, f}}
		}
		max := s.Scope(sp, 3, 2)
		has := func(sc api.Scope, n api.Node) bool {
			ok, e := core.Satisfiable(sp, sc, bounds.Default(sp, sc), []api.Node{n})
			if e != api.OK {
				t.Fatalf("%s%s: %d", printer.Spec(sp), printer.Formula(n), e)
			}
			return ok
		}
		got, e := minscope.Least(sp, max, f)
		want, first := api.Scope{}, -1
		for i, sc := range minscope.Order(max) {
			if first < 0 && has(sc, f) {
				want, first = sc, i
			}
		}
		if first > 0 {
			late++
		}
		if !equal(got, want) || (e == api.ErrNone) != (first < 0) || e != api.OK && e != api.ErrNone {
			t.Fatalf("%s%s: %v, not %v, %d", printer.Spec(sp), printer.Formula(f), got, want, e)
		}
		checkLaws(t, s, sp, max, f, g, got, e)
		grown, e := minscope.Growing(sp, max, f)
		for i := range max.Atoms {
			larger := api.Scope{Atoms: slices.Clone(max.Atoms), Steps: max.Steps}
			larger.Atoms[i]++
			if e != api.OK || has(larger, f) != slices.Contains(grown, i) || !slices.IsSorted(grown) {
				t.Fatalf("%s%s: %v, %d", printer.Spec(sp), printer.Formula(f), grown, e)
			}
		}
	}
	if late < 10 {
		t.Errorf("only %d formulas need more than the first scope", late)
	}
}

// checkLaws checks greater maxima, disjunctions and conjunctions.
func checkLaws(t *testing.T, s *sample.Source, sp api.Spec, max api.Scope, f, g api.Node, least api.Scope, e api.Errno) {
	t.Helper()
	wider := api.Scope{Atoms: slices.Clone(max.Atoms), Steps: max.Steps}
	wider.Atoms[s.Below(len(wider.Atoms))]++
	if more, d := minscope.Least(sp, wider, f); e == api.OK && (d != api.OK || compare(more, least) > 0) {
		t.Fatalf("%s: %v in %v, %v in %v", printer.Formula(f), least, max, more, wider)
	}
	other, d := minscope.Least(sp, max, g)
	either, x := minscope.Least(sp, max, api.Node{Op: api.OpOr, Kids: []api.Node{f, g}})
	both, y := minscope.Least(sp, max, api.Node{Op: api.OpAnd, Kids: []api.Node{f, g}})
	want := least
	if e != api.OK || d == api.OK && compare(other, least) < 0 {
		want = other
	}
	if (x == api.OK) != (e == api.OK || d == api.OK) || x == api.OK && !equal(either, want) {
		t.Fatalf("%s, %s: %v", printer.Formula(f), printer.Formula(g), either)
	}
	if y == api.OK && (e != api.OK || d != api.OK || compare(both, least) < 0 || compare(both, other) < 0) {
		t.Fatalf("%s, %s: %v", printer.Formula(f), printer.Formula(g), both)
	}
}
