package model

import (
	"reflect"
	"testing"

	"armature/api"
	"armature/clone"
	"armature/sample"
)

// trace returns a model with one unary field over three atoms, with one letter for each state.
func trace(states string, loop int) api.Model {
	m := api.Model{Scope: api.Scope{Atoms: []int{3}, Steps: len(states)}, Loop: loop}
	for i := range len(states) {
		m.States = append(m.States, []api.Rel{{Arity: 1, Tuples: []int{int(states[i] - 'a')}}})
	}
	return m
}

// letters is the inverse of trace.
func letters(m api.Model) string {
	var b []byte
	for _, state := range m.States {
		b = append(b, byte('a'+state[0].Tuples[0]))
	}
	return string(b)
}

var sorted = api.Spec{
	Sorts:  []api.Sort{{Name: "A"}, {Name: "B"}},
	Fields: []api.Field{{Name: "f", Sorts: []int{0, 1}, Var: true}, {Name: "g", Sorts: []int{1}}},
}

// good returns a valid model of the specification sorted, with 2 and 1 atoms and two states.
func good() api.Model {
	g := func() api.Rel { return api.Rel{Arity: 1, Tuples: []int{2}} }
	return api.Model{Scope: api.Scope{Atoms: []int{2, 1}, Steps: 2}, Loop: 1, States: [][]api.Rel{
		{{Arity: 2, Tuples: []int{2, 5}}, g()}, {{Arity: 2}, g()}}}
}

// P7.1: Valid accepts a model, and rejects each way of being malformed.
func TestValid(t *testing.T) {
	if !Valid(sorted, good()) {
		t.Fatal("the model is not valid")
	}
	for i, change := range []func(*api.Model){
		func(m *api.Model) { m.Scope.Atoms = []int{2} },
		func(m *api.Model) { m.Scope.Atoms[0] = 0 },
		func(m *api.Model) { m.Scope.Steps = 1 },
		func(m *api.Model) {
			m.Scope.Steps, m.States = 5, append(m.States, m.States[1], m.States[1], m.States[1])
		},
		func(m *api.Model) { m.States = m.States[:1] },
		func(m *api.Model) { m.States = append(m.States, m.States[1]) },
		func(m *api.Model) { m.Loop = -1 },
		func(m *api.Model) { m.Loop = 2 },
		func(m *api.Model) { m.States[0] = m.States[0][:1] },
		func(m *api.Model) { m.States[1] = m.States[1][:1] },
		func(m *api.Model) { m.States[1] = append(m.States[1], api.Rel{Arity: 1}) },
		func(m *api.Model) { m.States[1][0].Arity = 1 },
		func(m *api.Model) { m.States[1][0].Tuples = []int{5, 2} },
		func(m *api.Model) { m.States[1][0].Tuples = []int{2, 2} },
		func(m *api.Model) { m.States[1][0].Tuples = []int{9} },
		func(m *api.Model) { m.States[1][0].Tuples = []int{-1} },
		func(m *api.Model) { m.States[1][0].Tuples = []int{1} },
		func(m *api.Model) { m.States[1][0].Tuples = []int{8} },
		func(m *api.Model) { m.States[1][1].Tuples = nil },
		func(m *api.Model) { m.States[0][1].Tuples, m.States[1][1].Tuples = []int{0}, []int{0} },
	} {
		m := good()
		change(&m)
		if Valid(sorted, m) {
			t.Errorf("change %d is valid", i)
		}
	}
	for _, sorts := range [][]int{nil, {2}, {-1}, {0, 0, 0, 0}} {
		m := api.Model{Scope: api.Scope{Atoms: []int{1}, Steps: 1}, States: [][]api.Rel{{{Arity: len(sorts)}}}}
		if Valid(api.Spec{Sorts: sorted.Sorts[:1], Fields: []api.Field{{Name: "f", Sorts: sorts}}}, m) {
			t.Errorf("columns %v are valid", sorts)
		}
	}
	if m := (api.Model{Scope: api.Scope{Steps: 1}, States: [][]api.Rel{{}}}); !Valid(api.Spec{}, m) {
		t.Error("a model without fields")
	}
	if m := (api.Model{Scope: api.Scope{Steps: 1}, States: [][]api.Rel{{{Arity: 1}}}}); Valid(api.Spec{}, m) || Valid(api.Spec{}, api.Model{}) {
		t.Error("a relation without a field")
	}
}

// P7.1, P7.2: successors and times.
func TestTimes(t *testing.T) {
	m := trace("abc", 1)
	for state, want := range map[int]int{-1: 0, 0: 1, 1: 2, 2: 1, 3: 0, 99: 0} {
		if got := Next(m, state); got != want {
			t.Errorf("Next(%d) = %d", state, got)
		}
	}
	for time, want := range "abcbcbcbc" {
		if got := At(m, time); int(want-'a') != got[0].Tuples[0] {
			t.Errorf("At(%d) = %v", time, got)
		}
	}
	if At(m, -1) != nil || At(m, 1<<62)[0].Tuples[0] != 2 {
		t.Error("At")
	}
	At(m, 0)[0].Tuples[0] = 7
	if letters(m) != "abc" {
		t.Error("At shares memory")
	}
	s := sample.New(1)
	for range 300 {
		m := random(s)
		state := 0
		for time := range 20 {
			if !equalStates(At(m, time), m.States[state]) {
				t.Fatalf("%s %d: time %d", letters(m), m.Loop, time)
			}
			if time >= m.Loop && !equalStates(At(m, time), At(m, time+len(m.States)-m.Loop)) {
				t.Fatalf("%s %d: period", letters(m), m.Loop)
			}
			state = Next(m, state)
		}
	}
}

func random(s *sample.Source) api.Model {
	length := s.Between(1, 7)
	var b []byte
	for range length {
		b = append(b, byte('a'+s.Below(2)))
	}
	return trace(string(b), s.Below(length))
}

// P7.1: Equal compares everything.
func TestEqual(t *testing.T) {
	if !Equal(good(), good()) || !Equal(api.Model{}, api.Model{States: [][]api.Rel{}}) {
		t.Error("equal models")
	}
	for i, change := range []func(*api.Model){
		func(m *api.Model) { m.Scope.Atoms[1] = 2 },
		func(m *api.Model) { m.Scope.Steps = 3 },
		func(m *api.Model) { m.Loop = 0 },
		func(m *api.Model) { m.States = m.States[:1] },
		func(m *api.Model) { m.States[0] = m.States[0][:1] },
		func(m *api.Model) { m.States[1][0].Arity = 1 },
		func(m *api.Model) { m.States[1][0].Tuples = []int{2} },
	} {
		m := good()
		change(&m)
		if Equal(m, good()) || Equal(good(), m) {
			t.Errorf("change %d", i)
		}
	}
}

// P7.1, P7.5: the examples of the chapter, and others.
func TestShorten(t *testing.T) {
	for _, x := range []struct {
		in       string
		loop     int
		want     string
		wantLoop int
	}{
		{"abab", 2, "ab", 0}, {"aaa", 0, "a", 0}, {"abb", 1, "ab", 1}, {"a", 0, "a", 0}, {"abc", 0, "abc", 0}, {"abab", 0, "ab", 0}, {"aba", 1, "ab", 0},
		{"cabab", 1, "cab", 1}, {"cabab", 3, "cab", 1}, {"bcabab", 4, "bcab", 2}, {"aab", 1, "aab", 1}, {"abcbc", 3, "abc", 1}, {"abcbc", 2, "abcbc", 2}, {"aabaab", 0, "aab", 0},
	} {
		m := trace(x.in, x.loop)
		got := Shorten(m)
		if letters(got) != x.want || got.Loop != x.wantLoop || got.Scope.Steps != len(got.States) || !SameTrace(m, got) {
			t.Errorf("Shorten(%s %d) = %s %d", x.in, x.loop, letters(got), got.Loop)
		}
	}
	if got := Shorten(good()); !Valid(sorted, got) || !Equal(got, good()) {
		t.Errorf("%v", got)
	}
	m := trace("ab", 0)
	m.Scope.Steps = 9
	if got := Shorten(m); got.Scope.Steps != 2 {
		t.Errorf("Steps: %v", got)
	}
	got := Shorten(m)
	got.States[0][0].Tuples[0], got.Scope.Atoms[0] = 7, 7
	if letters(m) != "ab" || m.Scope.Atoms[0] != 3 {
		t.Error("Shorten shares memory")
	}
	long := trace("a", 0)
	for range 63 {
		long.States = append(long.States, clone.State(long.States[0]))
	}
	if got := Shorten(long); letters(got) != "a" {
		t.Errorf("64 states: %v", got)
	}
	for _, bad := range []api.Model{{}, trace("ab", 2), trace("ab", -1)} {
		if got := Shorten(bad); !reflect.DeepEqual(got, api.Model{}) || SameTrace(bad, bad) {
			t.Errorf("%v", got)
		}
	}
}

// P7.3, P7.4, P7.5 on sampled traces.
func TestTraces(t *testing.T) {
	s := sample.New(2)
	for range 3000 {
		a, b := random(s), random(s)
		same := true
		for time := range 64 {
			same = same && equalStates(At(a, time), At(b, time))
		}
		if SameTrace(a, b) != same || SameTrace(b, a) != same || Equal(Shorten(a), Shorten(b)) != same {
			t.Fatalf("%s %d and %s %d: same is %t", letters(a), a.Loop, letters(b), b.Loop, same)
		}
		short := Shorten(a)
		if same && len(short.States) > len(b.States) || !Equal(Shorten(short), short) {
			t.Fatalf("Shorten(%s %d) = %s", letters(a), a.Loop, letters(short))
		}
		twice, moved := clone.Model(a), clone.Model(a)
		for i := a.Loop; i < len(a.States); i++ {
			twice.States = append(twice.States, At(a, i))
		}
		moved.States = append(moved.States, At(a, a.Loop))
		moved.Loop++
		if !SameTrace(a, twice) || !SameTrace(a, moved) || !Equal(Shorten(twice), short) || !Equal(Shorten(moved), short) {
			t.Fatalf("%s %d: unrolling", letters(a), a.Loop)
		}
	}
	a, b := trace("ab", 0), trace("ab", 0)
	b.Scope.Atoms = []int{4}
	if SameTrace(a, b) {
		t.Error("different atoms")
	}
	b = trace("ab", 0)
	b.States[1][0].Arity = 2
	if SameTrace(a, b) {
		t.Error("different arities")
	}
	b = trace("ab", 0)
	b.States[1] = append(b.States[1], api.Rel{Arity: 1})
	if SameTrace(a, b) {
		t.Error("different numbers of relations")
	}
}

// P7.5: the shortest representation of a valid model is valid.
func TestValidShorten(t *testing.T) {
	s := sample.New(3)
	for range 300 {
		sp := s.Spec(sample.Small)
		sc := s.Scope(sp, 2, 4)
		m := s.Model(sp, sc, s.Bounds(sp, sc, 8))
		if !Valid(sp, m) || !Valid(sp, Shorten(m)) {
			t.Fatalf("%v", m)
		}
	}
}
