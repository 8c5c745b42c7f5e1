package session_test

import (
	"slices"
	"strings"
	"testing"

	"armature/api"
	"armature/bounds"
	"armature/core"
	"armature/enumerate"
	"armature/eval"
	"armature/model"
	"armature/printer"
	"armature/repair"
	"armature/sample"
	"armature/session"
	"armature/table"
)

// step is a command with the answer that is expected.
type step struct {
	kind int
	text string
	nums []int
	err  api.Errno
	out  []int
}

// play executes commands in a session.
func play(t *testing.T, s *session.Session, steps ...step) {
	t.Helper()
	for i, x := range steps {
		a := s.Do(api.Command{Kind: x.kind, Text: x.text, Nums: x.nums})
		if a.Err != x.err || !slices.Equal(a.Nums, x.out) || a.Text != "" && x.kind != api.CmdShow {
			t.Errorf("step %d, command %d %q %v: %d, %v, %q", i, x.kind, x.text, x.nums, a.Err, a.Nums, a.Text)
		}
	}
}

func spec(text string, out ...int) step { return step{api.CmdSpec, text, nil, 0, out} }
func scope(nums ...int) step            { return step{api.CmdScope, "", nums, 0, nil} }
func run(text string, count int) step   { return step{api.CmdRun, text, nil, 0, []int{count}} }

// P35.1: the examples of the chapter.
func TestExamples(t *testing.T) {
	play(t, session.New(), step{kind: api.CmdNext, err: 360})
	play(t, session.New(), spec("sort A; field f: A;", 1, 1, 0, 0), scope(1, 1), run("some f", 1))
}

// P35.1: what each command requires, and what it makes missing.
func TestRequirements(t *testing.T) {
	s := session.New()
	missing := func(kinds ...int) {
		t.Helper()
		for _, kind := range kinds {
			play(t, s, step{kind: kind, text: "some nothing", nums: []int{1}, err: api.ErrCommand})
		}
	}
	missing(0, -1, 10, api.CmdScope, api.CmdRun, api.CmdCheck, api.CmdNext, api.CmdEdit, api.CmdRepair, api.CmdCore, api.CmdShow)
	play(t, s, spec("sort A; field f: A; pred p[] { some f } fact a { p[] }", 1, 1, 1, 1))
	missing(api.CmdRun, api.CmdCheck, api.CmdNext, api.CmdEdit, api.CmdRepair, api.CmdCore, api.CmdShow)
	play(t, s, scope(2, 1))
	missing(api.CmdNext, api.CmdEdit, api.CmdRepair, api.CmdCore, api.CmdShow)
	play(t, s, step{api.CmdRun, "no f", nil, 270, nil})
	missing(api.CmdEdit, api.CmdRepair, api.CmdShow)
	play(t, s, step{api.CmdNext, "", nil, 270, nil}, step{api.CmdCore, "", nil, 0, []int{0, 1}}, run("true", 1))
	missing(api.CmdCore)
	play(t, s, step{api.CmdNext, "", nil, 0, []int{2}}, step{api.CmdNext, "", nil, 270, nil}, step{api.CmdNext, "", nil, 270, nil})
	missing(api.CmdCore)
	play(t, s, step{api.CmdEdit, "", []int{1, 0, 0, 0}, 0, nil}, scope(2, 1))
	missing(api.CmdNext, api.CmdEdit, api.CmdRepair, api.CmdCore, api.CmdShow)
	play(t, s, run("true", 1), spec("", 0, 0, 0, 0))
	missing(api.CmdRun, api.CmdNext, api.CmdShow)
	play(t, s, scope(3), run("true", 1))
}

// P35.1: errors of the commands, which change nothing.
func TestErrors(t *testing.T) {
	s := session.New()
	play(t, s, spec("sort A; field f: A -> A; pred p[x: A] { some x . f }", 1, 1, 1, 0), scope(2, 1), run("one f", 1))
	shown := s.Do(api.Command{Kind: api.CmdShow}).Text
	deep := strings.Repeat("not ", 23) + "true"
	play(t, s,
		step{api.CmdSpec, "sort A", nil, 21, []int{6}}, step{api.CmdSpec, "sort A; sort 1; sort 2;", nil, 20, []int{13}}, step{api.CmdSpec, "sort @", nil, 10, []int{5}}, step{api.CmdSpec, "sort A; fact a { some g } fact b { some h }", nil, 40, []int{22}}, step{api.CmdSpec, "sort A; sort A;", nil, 41, []int{0}},
		step{api.CmdScope, "", nil, 1, nil}, step{api.CmdScope, "", []int{2}, 1, nil}, step{api.CmdScope, "", []int{2, 1, 1}, 1, nil}, step{api.CmdScope, "", []int{6, 1}, 50, nil}, step{api.CmdScope, "", []int{2, 0}, 50, nil}, step{api.CmdScope, "", []int{-1, 1}, 50, nil},
		step{api.CmdRun, "some", nil, 21, []int{4}}, step{api.CmdRun, "some f + g", nil, 40, []int{9}}, step{api.CmdRun, "some A + f", nil, 42, []int{7}}, step{api.CmdCheck, "p[f]", nil, 42, []int{0}}, step{api.CmdCheck, "p[]", nil, 45, []int{0}}, step{api.CmdCheck, deep, nil, 2, nil},
		step{api.CmdEdit, "", []int{1, 0, 0}, 1, nil}, step{api.CmdEdit, "", []int{1, 0, 0, 0, 0}, 1, nil}, step{api.CmdEdit, "", []int{3, 0, 0, 0}, 1, nil}, step{api.CmdEdit, "", []int{1, 1, 0, 0}, 1, nil}, step{api.CmdEdit, "", []int{1, 0, 1, 0}, 1, nil}, step{api.CmdEdit, "", []int{1, 0, 0, 4}, 330, nil},
		step{api.CmdCore, "", nil, 360, nil},
	)
	if got := s.Do(api.Command{Kind: api.CmdShow}).Text; got != shown || shown == "" {
		t.Errorf("%q, then %q", shown, got)
	}
	play(t, s, step{api.CmdNext, "", nil, 0, []int{2}}, step{api.CmdRun, deep, nil, 270, nil}, step{api.CmdCore, "", nil, 0, []int{0}})
	wide := "sort A; field f: A -> A -> A;"
	play(t, s, spec(wide, 1, 1, 0, 0), scope(3, 1), run("some f", 1), step{api.CmdRepair, "", nil, 2, nil}, scope(5, 1), step{api.CmdRun, "some f", nil, 2, nil}, step{api.CmdNext, "", nil, 360, nil})
	long := "pred p[] { " + balanced("some A", 64) + " }"
	play(t, s, spec("sort A; "+long, 1, 0, 1, 0), scope(1, 1), run("true", 1), step{api.CmdRun, balanced("p[]", 4), nil, 2, nil}, step{api.CmdNext, "", nil, 270, nil})
}

// balanced returns a conjunction of copies of a formula.
func balanced(text string, n int) string {
	if n == 1 {
		return text
	}
	return "(" + balanced(text, n/2) + " && " + balanced(text, n-n/2) + ")"
}

// P35.1, P35.4: editing, repairing and showing.
func TestModels(t *testing.T) {
	s := session.New()
	show := func() string { return s.Do(api.Command{Kind: api.CmdShow, Nums: []int{7}, Text: "x"}).Text }
	play(t, s, spec("sort A; field f: A; var field g: A;", 1, 2, 0, 0), scope(2, 2), run("one f && always g = f", 1))
	if got := show(); got != "scope A=2 steps=2 loop=0\nstate 0\nf = {A$1}\ng = {A$1}\nstate 1\nf = {A$1}\ng = {A$1}\n" {
		t.Errorf("%q", got)
	}
	play(t, s, step{api.CmdEdit, "ignored", []int{1, 1, 0, 0}, 0, nil}, step{api.CmdEdit, "", []int{2, 0, 1, 1}, 0, nil})
	if got := show(); got != "scope A=2 steps=2 loop=0\nstate 0\nf = {A$0, A$1}\ng = {}\nstate 1\nf = {A$0, A$1}\ng = {A$1}\n" {
		t.Errorf("%q", got)
	}
	play(t, s, step{api.CmdRepair, "", nil, 0, []int{3}}, step{api.CmdRepair, "", nil, 0, []int{0}})
	if got := show(); got != "scope A=2 steps=2 loop=0\nstate 0\nf = {A$1}\ng = {A$1}\nstate 1\nf = {A$1}\ng = {A$1}\n" {
		t.Errorf("%q", got)
	}
	play(t, s, step{api.CmdNext, "", nil, 0, []int{2}}, step{api.CmdCheck, "lone f", nil, 0, []int{1}})
	if got := show(); !strings.Contains(got, "f = {A$0, A$1}") {
		t.Errorf("%q", got)
	}
	play(t, s, step{api.CmdCheck, "f in A", nil, 270, nil}, step{api.CmdCore, "", nil, 0, []int{0}})
}

// P35.2, P35.4, P35.5, T9 against the single packages.
func TestRandom(t *testing.T) {
	s := sample.New(1)
	cores, repairs := 0, 0
	for range 200 {
		sp := s.Spec(sample.Small)
		sc := s.Scope(sp, 2, 2)
		n := s.Formula(sp, nil, 3, true)
		x := session.New()
		play(t, x, spec(printer.Spec(sp), len(sp.Sorts), len(sp.Fields), len(sp.Preds), len(sp.Facts)), scope(append(slices.Clone(sc.Atoms), sc.Steps)...))
		kind, problem := api.CmdRun, n
		if s.Chance(40) {
			kind, problem = api.CmdCheck, api.Node{Op: api.OpNot, Kids: []api.Node{n}}
		}
		b := bounds.Default(sp, sc)
		want, e := enumerate.All(sp, sc, b, problem)
		if e != api.OK {
			continue
		}
		a := x.Do(api.Command{Kind: kind, Text: printer.Formula(n)})
		for i, m := range want {
			if holds, _ := eval.Holds(sp, m, problem); a.Err != api.OK || !slices.Equal(a.Nums, []int{i + 1}) || x.Do(api.Command{Kind: api.CmdShow}).Text != table.Format(sp, m) || !holds {
				t.Fatalf("%s%s: model %d, %v", printer.Spec(sp), printer.Formula(n), i, a)
			}
			if s.Chance(20) {
				repairs += checkRepair(t, s, x, sp, b, problem, m)
			}
			a = x.Do(api.Command{Kind: api.CmdNext})
		}
		if a.Err != api.ErrNone {
			t.Fatalf("%s%s: %v after %d models", printer.Spec(sp), printer.Formula(n), a, len(want))
		}
		c := x.Do(api.Command{Kind: api.CmdCore})
		if len(want) > 0 {
			if c.Err != api.ErrCommand {
				t.Fatalf("%v", c)
			}
			continue
		}
		cores++
		checkCore(t, sp, sc, b, problem, c)
	}
	if cores < 20 || repairs < 20 {
		t.Errorf("%d cores, %d repairs", cores, repairs)
	}
}

// checkRepair edits and repairs the current model m, and compares the session with package repair.
func checkRepair(t *testing.T, s *sample.Source, x *session.Session, sp api.Spec, b []api.Bound, problem api.Node, m api.Model) int {
	t.Helper()
	e := api.Edit{Kind: s.Between(1, 2), State: s.Below(len(m.States)), Field: s.Below(len(sp.Fields)), Tuple: s.Below(4)}
	edited, err := repair.Apply(sp, b, m, []api.Edit{e})
	if a := x.Do(api.Command{Kind: api.CmdEdit, Nums: []int{e.Kind, e.State, e.Field, e.Tuple}}); a.Err != err || len(a.Nums) > 0 {
		t.Fatalf("%v: %v", e, a)
	}
	if err != api.OK {
		edited = m
	}
	fixed, edits, err := repair.Repair(sp, m.Scope, b, problem, edited)
	if err == api.ErrLimit {
		return 0
	}
	a := x.Do(api.Command{Kind: api.CmdRepair})
	if err != api.OK || a.Err != api.OK || !slices.Equal(a.Nums, []int{len(edits)}) || x.Do(api.Command{Kind: api.CmdShow}).Text != table.Format(sp, fixed) {
		t.Fatalf("%v: %v", edited, a)
	}
	if holds, _ := eval.Holds(sp, fixed, problem); !holds || !model.Valid(sp, fixed) {
		t.Fatalf("%v is no model", fixed)
	}
	if a := x.Do(api.Command{Kind: api.CmdRepair}); a.Err != api.OK || !slices.Equal(a.Nums, []int{0}) {
		t.Fatalf("repairing again: %v", a)
	}
	return 1
}

// checkCore checks P35.5.
func checkCore(t *testing.T, sp api.Spec, sc api.Scope, b []api.Bound, problem api.Node, c api.Answer) {
	t.Helper()
	plain := api.Spec{Sorts: sp.Sorts, Fields: sp.Fields, Preds: sp.Preds}
	var all []api.Node
	for _, f := range sp.Facts {
		all = append(all, f.Body)
	}
	all = append(all, problem)
	var chosen []api.Node
	for _, i := range c.Nums {
		chosen = append(chosen, all[i])
	}
	if possible, e := core.Satisfiable(plain, sc, b, chosen); c.Err != api.OK || possible || e != api.OK {
		t.Fatalf("%v: %v", all, c)
	}
	for i := range chosen {
		if possible, _ := core.Satisfiable(plain, sc, b, slices.Delete(slices.Clone(chosen), i, i+1)); !possible {
			t.Fatalf("%v: %v is not minimal", all, c)
		}
	}
}

// P35.3: commands with errors do not change later answers, unless they are runs, checks or nexts.
func TestIndependence(t *testing.T) {
	s := sample.New(2)
	text := "sort A; field f: A; fact a { some A }"
	for range 200 {
		x, y := session.New(), session.New()
		for range 25 {
			c := api.Command{Kind: s.Below(11), Nums: []int{s.Between(1, 2), s.Below(2), 0, s.Below(3)}}
			c.Text = sample.Pick(s, []string{text, "some f", "one f", "true", "no f", "some f && no f", "some g", ")"})
			if c.Kind == api.CmdScope || s.Chance(20) {
				c = api.Command{Kind: api.CmdScope, Nums: []int{s.Between(1, 3), 1}}
			}
			if s.Chance(15) {
				c = api.Command{Kind: api.CmdSpec, Text: text}
			}
			a := x.Do(c)
			if a.Err != api.OK && c.Kind != api.CmdRun && c.Kind != api.CmdCheck && c.Kind != api.CmdNext {
				continue
			}
			if b := y.Do(c); b.Err != a.Err || b.Text != a.Text || !slices.Equal(a.Nums, b.Nums) {
				t.Fatalf("%v: %v, then %v", c, a, b)
			}
		}
	}
}

// A session keeps nothing of its arguments.
func TestArguments(t *testing.T) {
	nums := []int{2, 1}
	s := session.New()
	play(t, s, spec("sort A; field f: A;", 1, 1, 0, 0))
	if a := s.Do(api.Command{Kind: api.CmdScope, Nums: nums}); a.Err != api.OK {
		t.Fatal(a)
	}
	nums[0] = 1
	play(t, s, run("#A = 2", 1))
}
