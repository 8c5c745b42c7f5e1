package grow

import (
	"slices"
	"testing"

	"armature/api"
	"armature/bounds"
	"armature/lasso"
	"armature/sample"
)

// A literal is translated into the literal of the embedded tuple, or of the same Loop, in the greater scope.
func TestTranslation(t *testing.T) {
	s := sample.New(1)
	for range 200 {
		sp := s.Spec(sample.Size{Sorts: 2, Fields: 3, Arity: 2, Temporal: true})
		from := s.Scope(sp, 2, 3)
		to := api.Scope{Steps: s.Between(from.Steps, 4)}
		for _, size := range from.Atoms {
			to.Atoms = append(to.Atoms, s.Between(size, 3))
		}
		old, new := bounds.Default(sp, from), bounds.Default(sp, to)
		translate := translation(sp, from, to)
		used := map[int]bool{}
		for v := 1; v <= lasso.Inputs(sp, from, old); v++ {
			values := make([]bool, lasso.Inputs(sp, from, old))
			values[v-1] = true
			m := Embed(sp, lasso.Decode(sp, from, old, values), to)
			x := translate(v)
			if x < 1 || translate(-v) != -x || used[x] {
				t.Fatalf("%v, %v: %d is translated into %d", from, to, v, x)
			}
			used[x] = true
			moved := make([]bool, lasso.Inputs(sp, to, new))
			moved[x-1] = true
			got := lasso.Decode(sp, to, new, moved)
			if v <= from.Steps && from.Steps > 1 && got.Loop != m.Loop {
				t.Fatalf("%v, %v: %d is translated into %d", from, to, v, x)
			}
			for i, state := range m.States {
				for j, r := range state {
					if !slices.Equal(r.Tuples, got.States[i][j].Tuples) {
						t.Fatalf("%v, %v: %d is translated into %d: %v, %v", from, to, v, x, m, got)
					}
				}
			}
		}
		if translate(0) != 0 || translate(lasso.Inputs(sp, from, old)+1) != 0 {
			t.Fatal("variables out of range")
		}
	}
}

// Only clauses over input variables are remembered, and no more than the limit.
func TestRemembered(t *testing.T) {
	learn := func(lits ...int) api.Step { return api.Step{Kind: api.StepLearn, Lits: lits} }
	got := remembered([][]int{{7, 8}}, []api.Step{learn(1, -4), learn(5), learn(-5, 1), learn(4), learn()}, 4)
	if !slices.EqualFunc(got, [][]int{{7, 8}, {1, -4}, {4}, {}}, slices.Equal[[]int]) {
		t.Error(got)
	}
	many := make([]api.Step, 300)
	for i := range many {
		many[i] = learn(1)
	}
	if got := remembered([][]int{{2}}, many, 1); len(got) != maxLearned {
		t.Errorf("%d clauses", len(got))
	}
}
