package unitprop

import "armature/api"

// maxSweeps bounds the passes over the clauses before a propagator with lists of occurrences pays.
const maxSweeps = 8

// sweep looks for a conflict by passing over the clauses a few times, in any order of implications. It is settled if it has found one, or if nothing is left to imply.
func sweep(f api.CNF, assume []int) (conflict, settled bool) {
	values := make([]int8, f.Vars+1)
	assign := func(x int) {
		if x < 0 {
			values[-x] = -1
		} else {
			values[x] = 1
		}
	}
	for _, x := range assume {
		assign(x)
	}
	for range maxSweeps {
		changed := false
		for _, clause := range f.Clauses {
			switch x, open := undetermined(values, clause); {
			case open == 0:
				return true, true
			case open == 1:
				assign(x)
				changed = true
			}
		}
		if !changed {
			return false, true
		}
	}
	return false, false
}

// undetermined returns an undetermined literal of a clause and the number of such literals, at most 2; a clause with a true literal counts as if it had 2.
func undetermined(values []int8, clause []int) (x, open int) {
	for _, y := range clause {
		value := values[max(y, -y)]
		if y < 0 {
			value = -value
		}
		if value > 0 || value == 0 && open == 1 && y != x {
			return 0, 2
		}
		if value == 0 {
			x, open = y, 1
		}
	}
	return x, open
}
