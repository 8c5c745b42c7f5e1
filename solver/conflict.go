package solver

import "slices"

// propagate assigns all literals that clauses imply, and returns the index of a clause that is falsified, or noReason.
func (s *Solver) propagate() int {
	for s.done < len(s.lits) {
		x := -s.lits[s.done]
		s.done++
		watching := s.watches[index(x)]
		kept := watching[:0]
		for i, c := range watching {
			if s.rewatch(c, x) {
				continue
			}
			kept = append(kept, c)
			first := s.clauses[c][0]
			switch s.value(first) {
			case -1:
				s.watches[index(x)] = append(kept, watching[i+1:]...)
				return c
			case 0:
				s.assign(first, c)
			}
		}
		s.watches[index(x)] = kept
	}
	return noReason
}

// rewatch lets a clause watch another literal instead of x, which is false. It fails if all other literals but the first one are false, or if that one is true.
func (s *Solver) rewatch(c, x int) bool {
	clause := s.clauses[c]
	if clause[0] == x {
		clause[0], clause[1] = clause[1], clause[0]
	}
	if s.value(clause[0]) > 0 {
		return false
	}
	for i := 2; i < len(clause); i++ {
		if y := clause[i]; s.value(y) >= 0 {
			clause[1], clause[i] = y, x
			s.watches[index(y)] = append(s.watches[index(y)], c)
			return true
		}
	}
	return false
}

// learn learns a clause from a conflict above level 0, goes back to the level where it implies a literal, and assigns that one. It fails if the proof is full.
func (s *Solver) learn(conflict int) bool {
	clause := s.analyze(conflict)
	if !s.log(clause) {
		return false
	}
	level := 0
	for i := 1; i < len(clause); i++ {
		if l := s.levels[variable(clause[i])]; l > level {
			level = l
			clause[1], clause[i] = clause[i], clause[1]
		}
	}
	s.back(level)
	s.assign(clause[0], s.attach(clause))
	return true
}

// analyze returns the clause of the first literal through which all implications of the current level lead to the conflict, and of literals of lower levels.
func (s *Solver) analyze(conflict int) []int {
	clause := []int{0}
	open := 0
	var touched []int
	mark := func(x int) {
		v := variable(x)
		if s.marked[v] || s.levels[v] == 0 {
			return
		}
		s.marked[v] = true
		touched = append(touched, v)
		if s.levels[v] == s.level() {
			open++
		} else {
			clause = append(clause, x)
		}
	}
	reason := conflict
	for i := len(s.lits) - 1; ; i-- {
		if reason != noReason {
			for _, x := range s.clauses[reason] {
				mark(x)
			}
		}
		for !s.marked[variable(s.lits[i])] {
			i--
		}
		open--
		if open == 0 {
			clause[0] = -s.lits[i]
			break
		}
		reason = s.reasons[variable(s.lits[i])]
	}
	clause = append(clause[:1], slices.DeleteFunc(clause[1:], s.redundant)...)
	for _, v := range touched {
		s.marked[v] = false
	}
	return clause
}

// redundant reports whether a literal of a learned clause follows from the others: whether it was implied by marked literals only.
func (s *Solver) redundant(x int) bool {
	reason := s.reasons[variable(x)]
	if reason == noReason {
		return false
	}
	return !slices.ContainsFunc(s.clauses[reason], func(y int) bool {
		v := variable(y)
		return v != variable(x) && !s.marked[v] && s.levels[v] > 0
	})
}

// refusal returns the assumptions that make the assumption x false, and x, in the order of the assumptions.
func (s *Solver) refusal(x int, assume []int) []int {
	needed := map[int]bool{x: true}
	pending := []int{-x}
	seen := map[int]bool{}
	for len(pending) > 0 {
		y := pending[len(pending)-1]
		pending = pending[:len(pending)-1]
		v := variable(y)
		if seen[v] || s.levels[v] == 0 {
			continue
		}
		seen[v] = true
		if s.reasons[v] == noReason {
			needed[y] = true
			continue
		}
		for _, z := range s.clauses[s.reasons[v]] {
			pending = append(pending, -z)
		}
	}
	var core []int
	for _, y := range assume {
		if needed[y] && !slices.Contains(core, y) {
			core = append(core, y)
		}
	}
	return core
}
