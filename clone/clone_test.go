package clone

import (
	"reflect"
	"testing"

	"armature/api"
	"armature/sample"
)

// Copies are equal, and changes of a copy do not change the original.
func TestCopies(t *testing.T) {
	s := sample.New(1)
	for range 100 {
		sp := s.Spec(sample.Size{Sorts: 2, Fields: 3, Arity: 2, Preds: 2, Facts: 2, Levels: 3})
		sc := s.Scope(sp, 3, 2)
		b := s.Bounds(sp, sc, 20)
		m := s.Model(sp, sc, b)
		if x := Spec(sp); !reflect.DeepEqual(x, sp) {
			t.Fatalf("%v, not %v", x, sp)
		} else if len(x.Facts) > 0 {
			x.Facts[0].Body.Op, x.Fields[0].Sorts[0] = 99, 99
			if sp.Facts[0].Body.Op == 99 || sp.Fields[0].Sorts[0] == 99 {
				t.Fatal("specifications share memory")
			}
		}
		if x := Models([]api.Model{m}); !reflect.DeepEqual(Scope(x[0].Scope), m.Scope) || x[0].Loop != m.Loop || len(x[0].States) != len(m.States) {
			t.Fatalf("%v, not %v", x, m)
		}
		if x := Bounds(b); len(x) != len(b) || len(x[0].Upper.Tuples) != len(b[0].Upper.Tuples) || x[0].Lower.Arity != b[0].Lower.Arity {
			t.Fatalf("%v, not %v", x, b)
		}
		n := s.Formula(sp, nil, 4, true)
		if x := Node(n); !reflect.DeepEqual(x, n) {
			t.Fatalf("%v, not %v", x, n)
		}
	}
	l := [][]int{{1, 2}, {3}}
	x := Lists(l)
	x[0][0] = 9
	if l[0][0] != 1 || len(x) != 2 || x[1][0] != 3 {
		t.Error(x)
	}
}
