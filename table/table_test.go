package table_test

import (
	"reflect"
	"strings"
	"testing"

	"armature/api"
	"armature/bounds"
	"armature/model"
	"armature/permute"
	"armature/sample"
	"armature/table"
)

func rel(arity int, tuples ...int) api.Rel { return api.Rel{Arity: arity, Tuples: tuples} }

// two has two sorts with the same name, and two fields with the same name.
var two = api.Spec{
	Sorts:  []api.Sort{{Name: "A"}, {Name: "A"}},
	Fields: []api.Field{{Name: "f", Sorts: []int{0, 1}, Var: true}, {Name: "f", Sorts: []int{1}}},
}

const twoText = `scope A=2 A=1 steps=2 loop=1
state 0
f = {A$0->A$0, A$1->A$0}
f = {A$0}
state 1
f = {}
f = {A$0}
`

// P34.1: the example of the chapter, and names that are not distinct.
func TestExamples(t *testing.T) {
	sp := api.Spec{Sorts: []api.Sort{{Name: "A"}}, Fields: []api.Field{{Name: "f", Sorts: []int{0, 0}}}}
	m := api.Model{Scope: api.Scope{Atoms: []int{2}, Steps: 1}, States: [][]api.Rel{{rel(2, 1, 2)}}}
	want := "scope A=2 steps=1 loop=0\nstate 0\nf = {A$0->A$1, A$1->A$0}\n"
	if got := table.Format(sp, m); got != want {
		t.Errorf("%q", got)
	}
	if got, e := table.Parse(sp, want); e != api.OK || !model.Equal(got, m) {
		t.Error(got, e)
	}
	m = api.Model{Scope: api.Scope{Atoms: []int{2, 1}, Steps: 2}, Loop: 1, States: [][]api.Rel{{rel(2, 2, 5), rel(1, 2)}, {rel(2), rel(1, 2)}}}
	if got := table.Format(two, m); got != twoText {
		t.Errorf("%q", got)
	}
	if got, e := table.Parse(two, twoText); e != api.OK || !model.Equal(got, m) {
		t.Error(got, e)
	}
	if got := table.Format(api.Spec{}, api.Model{Scope: api.Scope{Steps: 1}, States: [][]api.Rel{nil}}); got != "scope steps=1 loop=0\nstate 0\n" {
		t.Errorf("%q", got)
	}
	if got := table.Format(two, api.Model{}); got != "" {
		t.Errorf("a model that is not valid: %q", got)
	}
}

// P34.1: texts that are no tables.
func TestErrors(t *testing.T) {
	for _, x := range [][2]string{
		{"scope", "Scope"}, {"A=2", "A=02"}, {"A=2", "A=1"}, {"A=2", "A=0"}, {"A=2", "A=6"}, {"A=2", "A=-2"}, {"A=2", "A="}, {"A=2", "A=2222222222222222222222"}, {"A=2", "B=2"}, {"A=2 A=1", "A=2"}, {"A=2 A=1", "A=2 A=1 A=1"}, {"A=2", " A=2"}, {"A=2", "A =2"},
		{"steps=2", "steps=1"}, {"steps=2", "steps=3"}, {"steps=2", "steps=02"}, {"steps=2", "steps=0"}, {"steps=2", "steps=5"}, {"loop=1", "loop=2"}, {"loop=1", "loop=01"}, {"loop=1", "loop=-1"}, {"loop=1\n", "loop=1 \n"}, {"loop=1\n", "loop=1\r\n"}, {"loop=1\n", "loop=1"},
		{"state 0", "state 1"}, {"state 1", "state 01"}, {"state 1", "state  1"}, {"state 1", "state 2"}, {"state 1\n", ""}, {"f = {}", "f = { }"}, {"f = {}", "f={}"}, {"f = {}", "g = {}"}, {"f = {}", "f = {"}, {"f = {}\n", ""}, {"f = {}", "f = {A$0}"}, {"f = {}", "f = {A$0->A$0->A$0}"},
		{"A$0->A$0, A$1->A$0", "A$1->A$0, A$0->A$0"}, {"A$0->A$0, A$1->A$0", "A$0->A$0, A$0->A$0"}, {"A$0->A$0, A$1->A$0", "A$0->A$0,A$1->A$0"}, {"A$0->A$0, A$1->A$0", "A$0->A$0, A$1->A$0, "}, {"A$0->A$0, A$1->A$0", ", A$0->A$0"}, {"A$1->A$0", "A$1->A$1"}, {"A$1->A$0", "A$2->A$0"},
		{"A$1->A$0", "A$01->A$0"}, {"A$1->A$0", "A$1 -> A$0"}, {"A$1->A$0", "A1->A$0"}, {"A$1->A$0", "B$1->A$0"}, {"f = {A$0}\nstate", "f = {}\nstate"}, {"A$1->A$0", "A$->A$0"}, {"A$1->A$0", "A$999999999999999999999->A$0"},
	} {
		text := strings.Replace(twoText, x[0], x[1], 1)
		if got, e := table.Parse(two, text); e != api.ErrFormat || !reflect.DeepEqual(got, api.Model{}) {
			t.Errorf("%q instead of %q: %v, %d", x[1], x[0], got, e)
		}
	}
	for _, text := range []string{"", "\n", "scope", " " + twoText, twoText + " ", twoText + "\n", twoText + twoText, strings.ReplaceAll(twoText, "\n", "\r\n")} {
		if got, e := table.Parse(two, text); e != api.ErrFormat || !reflect.DeepEqual(got, api.Model{}) {
			t.Errorf("%q: %v, %d", text, got, e)
		}
	}
	for _, sorts := range [][]int{nil, {1}, {-1}, {0, 0, 0, 0}} {
		sp := api.Spec{Sorts: two.Sorts[:1], Fields: []api.Field{{Name: "f", Sorts: sorts}}}
		if _, e := table.Parse(sp, "scope A=1 steps=1 loop=0\nstate 0\nf = {A$0}\n"); e != api.ErrFormat {
			t.Errorf("columns %v: %d", sorts, e)
		}
	}
	five := api.Spec{Sorts: make([]api.Sort, 5)}
	if _, e := table.Parse(five, "scope =1 =1 =1 =1 =1 steps=1 loop=0\nstate 0\n"); e != api.ErrFormat {
		t.Errorf("five sorts: %d", e)
	}
}

// P34.2 to P34.5 on sampled models.
func TestRandom(t *testing.T) {
	s := sample.New(1)
	for range 400 {
		sp := s.Spec(sample.Size{Sorts: 3, Fields: 4, Arity: 3, Temporal: true})
		sc := s.Scope(sp, 3, 4)
		m := s.Model(sp, sc, s.Bounds(sp, sc, 30))
		text := table.Format(sp, m)
		got, e := table.Parse(sp, text)
		if e != api.OK || !model.Equal(got, m) || table.Format(sp, got) != text {
			t.Fatalf("%s%v, %d", text, got, e)
		}
		if strings.Count(text, "\n") != 1+sc.Steps*(1+len(sp.Fields)) || !strings.HasSuffix(text, "\n") {
			t.Fatalf("%s", text)
		}
		for range 10 {
			if _, e := table.Parse(sp, text[:s.Below(len(text))]); e != api.ErrFormat {
				t.Fatalf("a prefix of %s", text)
			}
			b := []byte(text)
			b[s.Below(len(b))] = "A$0123->, {}=\n"[s.Below(14)]
			if again, e := table.Parse(sp, string(b)); e == api.OK && (table.Format(sp, again) != string(b) || !model.Valid(sp, again)) {
				t.Fatalf("%s", b)
			}
		}
		if _, e := table.Parse(sp, text+"f"); e != api.ErrFormat {
			t.Fatalf("%s with more text", text)
		}
		if image := table.Format(sp, permute.Model(sample.Pick(s, permute.All(sc)), m)); len(image) != len(text) {
			t.Fatalf("%s and %s", text, image)
		}
		other := s.Model(sp, sc, bounds.Default(sp, sc))
		if (table.Format(sp, other) == text) != model.Equal(other, m) {
			t.Fatalf("%s: %v and %v", text, m, other)
		}
	}
}
