package sample

import "armature/api"

// Circuit returns a valid circuit with the given variables as its first gates, so that variable v has the reference 2v, and some conjunctions.
func (s *Source) Circuit(variables, gates int) api.Circuit {
	c := api.Circuit{Gates: []api.Gate{{Kind: api.GateTrue}}}
	for v := range variables {
		c.Gates = append(c.Gates, api.Gate{Kind: api.GateInput, A: v + 1})
	}
	seen := map[api.Gate]bool{}
	for range gates {
		a, b := s.Between(2, 2*len(c.Gates)-1), s.Between(2, 2*len(c.Gates)-1)
		g := api.Gate{Kind: api.GateAnd, A: min(a, b), B: max(a, b)}
		if len(c.Gates) > 1 && a/2 != b/2 && !seen[g] {
			seen[g] = true
			c.Gates = append(c.Gates, g)
		}
	}
	return c
}

// Full returns a valid circuit with as many gates as possible; variable v, up to 200, has the reference 2v.
func Full() api.Circuit {
	c := api.Circuit{Gates: []api.Gate{{Kind: api.GateTrue}}}
	for v := range 200 {
		c.Gates = append(c.Gates, api.Gate{Kind: api.GateInput, A: v + 1})
	}
	for a := 2; a < 402; a += 2 {
		for b := a + 2; b < 402; b++ {
			if len(c.Gates) < api.MaxGates {
				c.Gates = append(c.Gates, api.Gate{Kind: api.GateAnd, A: a, B: b})
			}
		}
	}
	return c
}

// Matrix returns a valid matrix over n atoms for a circuit. If constant is true, all its references are 0.
func (s *Source) Matrix(c api.Circuit, n, arity int, constant bool) api.Matrix {
	m := api.Matrix{Arity: arity}
	percent := Pick(s, []int{20, 50, 90})
	count := 1
	for range arity {
		count *= n
	}
	for rank := range count {
		r := s.Below(2 * len(c.Gates))
		if constant || s.Chance(10) {
			r = 0
		}
		if s.Chance(percent) && r != 1 {
			m.Cells = append(m.Cells, api.Cell{Rank: rank, Ref: r})
		}
	}
	return m
}

// Values returns an assignment.
func (s *Source) Values(variables int) []bool {
	out := make([]bool, variables)
	for i := range out {
		out[i] = s.Chance(50)
	}
	return out
}

// Clauses returns a formula in conjunctive normal form whose clauses have at most the given number of literals.
func (s *Source) Clauses(variables, clauses, width int) api.CNF {
	f := api.CNF{Vars: variables}
	for range clauses {
		f.Clauses = append(f.Clauses, s.Clause(variables, width))
	}
	return f
}

// Clause returns a clause with 1 to width literals, which may be repeated.
func (s *Source) Clause(variables, width int) []int {
	var clause []int
	for range s.Between(1, width) {
		clause = append(clause, s.Literal(variables))
	}
	return clause
}

// Literal returns a literal.
func (s *Source) Literal(variables int) int {
	v := s.Between(1, variables)
	if s.Chance(50) {
		return -v
	}
	return v
}
