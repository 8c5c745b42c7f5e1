// Package gates lets a circuit grow in place by the rules of layer 13 (see shared/doc/13-circuit.md). Package circuit applies it to single operations, and the layers above to many operations in a row, which would copy the circuit again and again otherwise.
package gates

import (
	"slices"

	"armature/api"
)

// None is the reference that stands for "no reference".
const None api.Ref = -1

// Growing is a circuit that grows.
type Growing struct {
	gates   []api.Gate
	owned   bool             // the gates have been copied from the circuit that it began with
	index   map[api.Gate]int // the gates by their contents, once it pays
	visited int              // the gates that have been looked at without the index
}

// From returns a growing circuit that begins with a circuit, which it does not change.
func From(c api.Circuit) *Growing {
	return &Growing{gates: c.Gates}
}

// Len returns the number of gates.
func (g *Growing) Len() int {
	return len(g.gates)
}

// Circuit returns the circuit as it is now; it shares no memory with the one at the beginning, or with later ones.
func (g *Growing) Circuit() api.Circuit {
	if !g.owned {
		return api.Circuit{Gates: slices.Clone(g.gates)}
	}
	g.owned = false
	return api.Circuit{Gates: slices.Clip(g.gates)}
}

// Not returns the negated reference.
func Not(r api.Ref) api.Ref {
	if r < 0 {
		return None
	}
	return r ^ 1
}

// Input returns a reference to a variable.
func (g *Growing) Input(v int) api.Ref {
	if v < 1 || v > api.MaxVars {
		return None
	}
	return g.reference(api.Gate{Kind: api.GateInput, A: v}, 0)
}

// And returns a reference to the conjunction, simplified and shared.
func (g *Growing) And(a, b api.Ref) api.Ref {
	end := 2 * len(g.gates)
	switch {
	case a < 0 || b < 0 || a >= end || b >= end:
		return None
	case a == 1 || b == 1 || b == Not(a):
		return 1
	case a == 0:
		return b
	case b == 0 || a == b:
		return a
	}
	// A gate comes after the gates that it uses.
	return g.reference(api.Gate{Kind: api.GateAnd, A: min(a, b), B: max(a, b)}, max(a, b)/2+1)
}

// Or returns a reference to the disjunction.
func (g *Growing) Or(a, b api.Ref) api.Ref {
	return Not(g.And(Not(a), Not(b)))
}

// reference returns a reference to a gate, which is appended unless there is one like it from an index on.
func (g *Growing) reference(x api.Gate, from int) api.Ref {
	if i := g.find(x, from); i >= 0 {
		return 2 * i
	}
	if len(g.gates) >= api.MaxGates {
		return None
	}
	if !g.owned {
		g.gates = append(make([]api.Gate, 0, len(g.gates)+16), g.gates...)
		g.owned = true
	}
	if g.index != nil {
		g.index[x] = len(g.gates)
	}
	g.gates = append(g.gates, x)
	return 2 * (len(g.gates) - 1)
}

// find returns the index of a gate, or -1.
func (g *Growing) find(x api.Gate, from int) int {
	if g.index == nil && g.visited > 8*len(g.gates) {
		g.index = make(map[api.Gate]int, len(g.gates))
		for i, y := range g.gates {
			g.index[y] = i
		}
	}
	if g.index != nil {
		if i, ok := g.index[x]; ok {
			return i
		}
		return -1
	}
	// Most repetitions follow soon.
	for i := len(g.gates) - 1; i >= from; i-- {
		g.visited++
		if g.gates[i] == x {
			return i
		}
	}
	return -1
}
