package solver

// noReason is the reason of a literal that was decided or assumed.
const noReason = -1

// trail holds the literals that have been assigned, in order, level by level.
type trail struct {
	lits    []int
	starts  []int // for each level above 0, the position of its first literal
	values  []int8
	levels  []int
	reasons []int // the clauses that implied the variables
	done    int   // the literals before this position have been propagated
	least   int   // no variable below it is undetermined
}

// newTrail returns an empty trail for some variables.
func newTrail(vars int) trail {
	return trail{values: make([]int8, vars+1), levels: make([]int, vars+1), reasons: make([]int, vars+1), least: 1}
}

// variable returns the variable of a literal.
func variable(x int) int {
	return max(x, -x)
}

// value returns 1 if a literal is true, -1 if it is false, and 0 if it is undetermined.
func (t *trail) value(x int) int8 {
	if x < 0 {
		return -t.values[-x]
	}
	return t.values[x]
}

// level returns the current level.
func (t *trail) level() int {
	return len(t.starts)
}

// open begins a level.
func (t *trail) open() {
	t.starts = append(t.starts, len(t.lits))
}

// assign makes a literal true at the current level.
func (t *trail) assign(x, reason int) {
	v := variable(x)
	t.lits = append(t.lits, x)
	t.values[v] = 1
	if x < 0 {
		t.values[v] = -1
	}
	t.levels[v] = t.level()
	t.reasons[v] = reason
}

// shorten removes the literals from a position on.
func (t *trail) shorten(length int) {
	for _, x := range t.lits[length:] {
		v := variable(x)
		t.values[v] = 0
		t.least = min(t.least, v)
	}
	t.lits = t.lits[:length]
	t.done = min(t.done, length)
}

// back removes all levels above the given one.
func (t *trail) back(level int) {
	if level < t.level() {
		t.shorten(t.starts[level])
		t.starts = t.starts[:level]
	}
}

// undetermined returns the smallest undetermined variable, or 0 if there is none.
func (t *trail) undetermined() int {
	for ; t.least < len(t.values); t.least++ {
		if t.values[t.least] == 0 {
			return t.least
		}
	}
	return 0
}
