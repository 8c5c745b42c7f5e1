package unitprop

import (
	"container/heap"
	"slices"

	"armature/api"
)

// propagator propagates the units of a formula. It counts for each clause its literals that are true and those that are undetermined.
type propagator struct {
	api.CNF
	trail           []int
	assumed         int   // the number of assumptions at the beginning of the trail
	reasons         []int // the clauses that implied the literals after them
	conflict        int
	values          []int8 // of variables: 1, -1, or 0 if undetermined
	satisfied, open []int
	starts          []int // where the clauses with a literal begin in the list below
	clauses         []int
	waiting         queue // clauses that have been falsified or unit
}

// queue is a heap of indices of clauses.
type queue []int

// Len returns the number of indices.
func (q queue) Len() int { return len(q) }

// Less orders indices.
func (q queue) Less(i, j int) bool { return q[i] < q[j] }

// Swap exchanges two indices.
func (q queue) Swap(i, j int) { q[i], q[j] = q[j], q[i] }

// Push adds an index at the end.
func (q *queue) Push(x any) {
	if i, ok := x.(int); ok {
		*q = append(*q, i)
	}
}

// Pop removes the index at the end.
func (q *queue) Pop() any {
	l := *q
	x := l[len(l)-1]
	*q = l[:len(l)-1]
	return x
}

// propagated returns the propagator of a formula and assumptions at the end of the propagation. Nothing follows from a formula with literals out of range.
func propagated(f api.CNF, assume []int) (p *propagator) {
	defer func() {
		if recover() != nil {
			p = &propagator{conflict: noConflict}
		}
	}()
	if contradict(assume) {
		return &propagator{conflict: contradictory}
	}
	p = newPropagator(f)
	for _, x := range assume {
		if p.value(x) == 0 {
			p.assign(x)
		}
	}
	p.assumed = len(p.trail)
	for i := range p.candidates {
		unit := slices.IndexFunc(p.Clauses[i], func(x int) bool { return p.value(x) == 0 })
		if unit < 0 {
			p.conflict = i
			break
		}
		p.reasons = append(p.reasons, i)
		p.assign(p.Clauses[i][unit])
	}
	return p
}

// contradict reports whether a list contains a literal and its negative.
func contradict(lits []int) bool {
	seen := map[int]bool{}
	for _, x := range lits {
		if seen[-x] {
			return true
		}
		seen[x] = true
	}
	return false
}

// newPropagator returns a propagator with an empty trail.
func newPropagator(f api.CNF) *propagator {
	p := &propagator{CNF: f, conflict: noConflict, values: make([]int8, f.Vars+1)}
	p.satisfied, p.open = make([]int, len(f.Clauses)), make([]int, len(f.Clauses))
	p.starts = make([]int, 2*f.Vars+4)
	for x := range p.occurrences {
		p.starts[index(x)+1]++
	}
	for i := 1; i < len(p.starts); i++ {
		p.starts[i] += p.starts[i-1]
	}
	p.clauses = make([]int, p.starts[len(p.starts)-1])
	next := slices.Clone(p.starts)
	for x, i := range p.occurrences {
		p.clauses[next[index(x)]] = i
		next[index(x)]++
		p.open[i]++
	}
	for i, open := range p.open {
		if open < 2 {
			p.waiting = append(p.waiting, i)
		}
	}
	return p
}

// index numbers literals.
func index(x int) int {
	if x < 0 {
		return -2*x + 1
	}
	return 2 * x
}

// occurrences yields each literal of each clause with the index of the clause, without repetitions within a clause.
func (p *propagator) occurrences(yield func(int, int) bool) {
	last := make([]int, 2*p.Vars+2) // for each literal, the last clause with it, counted from 1
	for i, clause := range p.Clauses {
		for _, x := range clause {
			if last[index(x)] == i+1 {
				continue
			}
			last[index(x)] = i + 1
			if !yield(x, i) {
				return
			}
		}
	}
}

// value returns 1 if a literal is true, -1 if it is false, and 0 if it is undetermined.
func (p *propagator) value(x int) int8 {
	if x < 0 {
		return -p.values[-x]
	}
	return p.values[x]
}

// containing returns the indices of the clauses with a literal.
func (p *propagator) containing(x int) []int {
	return p.clauses[p.starts[index(x)]:p.starts[index(x)+1]]
}

// assign appends a literal to the trail.
func (p *propagator) assign(x int) {
	p.trail = append(p.trail, x)
	if x < 0 {
		p.values[-x] = -1
	} else {
		p.values[x] = 1
	}
	for _, i := range p.containing(x) {
		p.satisfied[i]++
		p.open[i]--
	}
	for _, i := range p.containing(-x) {
		p.open[i]--
		if p.satisfied[i] == 0 && p.open[i] < 2 {
			heap.Push(&p.waiting, i)
		}
	}
}

// candidates yields the first clause that is falsified or unit, again and again, until there is none.
func (p *propagator) candidates(yield func(int) bool) {
	for len(p.waiting) > 0 {
		i, ok := heap.Pop(&p.waiting).(int)
		if ok && p.satisfied[i] == 0 && !yield(i) {
			return
		}
	}
}

// implied returns the literals that clauses have implied.
func (p *propagator) implied() []int {
	return p.trail[p.assumed:]
}
