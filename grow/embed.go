package grow

import (
	"slices"

	"armature/api"
	"armature/bounds"
	"armature/clone"
	"armature/universe"
)

// Embed returns the same model with more atoms.
func Embed(sp api.Spec, m api.Model, sc api.Scope) (out api.Model) {
	defer func() {
		if recover() != nil {
			out = api.Model{}
		}
	}()
	out = clone.Model(m)
	out.Scope = api.Scope{Atoms: slices.Clone(sc.Atoms), Steps: m.Scope.Steps}
	for _, state := range out.States {
		for _, r := range state {
			for i, rank := range r.Tuples {
				r.Tuples[i] = moved(m.Scope, sc, r.Arity, rank)
			}
			slices.Sort(r.Tuples)
		}
	}
	return out
}

// moved returns the rank, in a greater scope, of the tuple of the atoms with the same sorts and the same indices within their sorts.
func moved(from, to api.Scope, arity, rank int) int {
	tuple := universe.Tuple(from, arity, rank)
	for i, atom := range tuple {
		sort := universe.SortOf(from, atom)
		tuple[i] = universe.First(to, sort) + atom - universe.First(from, sort)
	}
	return universe.Rank(to, tuple)
}

// meaning is what an input variable stands for: a Loop, or a tuple of a field in a state.
type meaning struct {
	loop  int // -1 for a tuple
	state int
	field int
	rank  int
}

// meanings returns what the input variables of a scope stand for, in order.
func meanings(sp api.Spec, sc api.Scope) []meaning {
	var out []meaning
	for v := range sc.Steps {
		if sc.Steps > 1 {
			out = append(out, meaning{loop: sc.Steps - 1 - v})
		}
	}
	free := bounds.Free(bounds.Default(sp, sc))
	for state := range sc.Steps {
		for _, x := range free {
			if state == 0 || sp.Fields[x[0]].Var {
				out = append(out, meaning{-1, state, x[0], x[1]})
			}
		}
	}
	return out
}

// translation returns a function that translates literals over the input variables of a scope into literals over those of a greater one, or into 0.
func translation(sp api.Spec, from, to api.Scope) func(x int) int {
	old := meanings(sp, from)
	number := map[meaning]int{}
	for i, x := range meanings(sp, to) {
		number[x] = i + 1
	}
	return func(x int) int {
		v := max(x, -x)
		if v < 1 || v > len(old) {
			return 0
		}
		same := old[v-1]
		if same.loop < 0 {
			same.rank = moved(from, to, len(sp.Fields[same.field].Sorts), same.rank)
		}
		if x < 0 {
			return -number[same]
		}
		return number[same]
	}
}
