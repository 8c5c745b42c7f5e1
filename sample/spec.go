package sample

import "armature/api"

// Size bounds the specifications that are sampled.
type Size struct {
	Sorts    int // at most
	Fields   int // at most
	Arity    int // of fields, at most
	Preds    int // at most
	Facts    int // at most
	Levels   int // of formulas
	Temporal bool
}

// Small is a size for which models can be found by trying all of them.
var Small = Size{Sorts: 2, Fields: 2, Arity: 2, Preds: 1, Facts: 1, Levels: 3, Temporal: true}

// Spec returns a specification without diagnostics.
func (s *Source) Spec(size Size) api.Spec {
	var sp api.Spec
	for i := range s.Between(1, size.Sorts) {
		sp.Sorts = append(sp.Sorts, api.Sort{Name: []string{"A", "B", "C", "D"}[i], Ordered: s.Chance(30)})
	}
	for i := range s.Between(1, size.Fields) {
		f := api.Field{Name: []string{"f", "g", "h", "k", "l", "m"}[i], Var: s.Chance(50)}
		for range s.Between(1, size.Arity) {
			f.Sorts = append(f.Sorts, s.Below(len(sp.Sorts)))
		}
		sp.Fields = append(sp.Fields, f)
	}
	for i := range s.Between(0, size.Preds) {
		q := api.Pred{Name: []string{"p", "q", "r", "f"}[i%4]}
		if i >= 4 {
			break
		}
		var env []string
		for j := range s.Between(0, 2) {
			q.Params = append(q.Params, api.Param{Name: []string{"x", "g"}[j], Sort: s.Below(len(sp.Sorts))})
			env = append(env, q.Params[j].Name)
		}
		q.Body = s.Formula(sp, env, size.Levels, size.Temporal)
		sp.Preds = append(sp.Preds, q)
	}
	for i := range s.Between(0, size.Facts) {
		sp.Facts = append(sp.Facts, api.Fact{Name: []string{"s", "t", "u", "w"}[i%4], Body: s.Formula(sp, nil, size.Levels, size.Temporal)})
	}
	return sp
}

// writer makes trees without diagnostics for a specification.
type writer struct {
	*Source
	sp       api.Spec
	env      []string
	temporal bool
}

// Formula returns a formula without diagnostics. The names in env are those of unary variables.
func (s *Source) Formula(sp api.Spec, env []string, levels int, temporal bool) api.Node {
	w := &writer{Source: s, sp: sp, env: env, temporal: temporal}
	return w.formula(levels)
}

// Relation returns a relational expression of an arity without diagnostics.
func (s *Source) Relation(sp api.Spec, env []string, arity, levels int, temporal bool) api.Node {
	w := &writer{Source: s, sp: sp, env: env, temporal: temporal}
	return w.relation(arity, levels)
}

// Integer returns an integer expression without diagnostics.
func (s *Source) Integer(sp api.Spec, env []string, levels int, temporal bool) api.Node {
	w := &writer{Source: s, sp: sp, env: env, temporal: temporal}
	return w.integer(levels)
}

// node returns a node with an arbitrary offset.
func (w *writer) node(op int, kids ...api.Node) api.Node {
	return api.Node{Op: op, Kids: kids, At: w.Below(100)}
}

// formula returns a formula.
func (w *writer) formula(levels int) api.Node {
	if levels <= 1 {
		return w.leafFormula()
	}
	switch w.Below(12) {
	case 0, 1:
		return w.node(Pick(w.Source, []int{api.OpAnd, api.OpOr, api.OpImplies, api.OpIff}), w.formula(levels-1), w.formula(levels-1))
	case 2:
		return w.node(api.OpNot, w.formula(levels-1))
	case 3, 4:
		return w.quantified(Pick(w.Source, []int{api.OpAll, api.OpExists}), levels)
	case 5, 6:
		if w.temporal {
			return w.temporalFormula(levels)
		}
	case 7:
		if n, ok := w.call(levels); ok {
			return n
		}
	case 8:
		return w.node(Pick(w.Source, []int{api.OpIntEq, api.OpLess}), w.integer(levels-1), w.integer(levels-1))
	case 9:
		arity := w.Between(1, 2)
		return w.node(Pick(w.Source, []int{api.OpIn, api.OpEqual}), w.relation(arity, levels-1), w.relation(arity, levels-1))
	}
	return w.node(Pick(w.Source, []int{api.OpSome, api.OpNo, api.OpOne, api.OpLone}), w.relation(w.Between(1, 3), levels-1))
}

// leafFormula returns a formula of at most two levels.
func (w *writer) leafFormula() api.Node {
	if w.Chance(10) {
		return w.node(Pick(w.Source, []int{api.OpTrue, api.OpFalse}))
	}
	return w.node(Pick(w.Source, []int{api.OpSome, api.OpNo, api.OpOne, api.OpLone}), w.leafRelation(w.Between(1, 2)))
}

// temporalFormula returns a formula with a temporal operator.
func (w *writer) temporalFormula(levels int) api.Node {
	op := Pick(w.Source, []int{api.OpAlways, api.OpEventual, api.OpAfter, api.OpUntil})
	if op == api.OpUntil {
		return w.node(op, w.formula(levels-1), w.formula(levels-1))
	}
	return w.node(op, w.formula(levels-1))
}

// quantified returns a quantifier or a comprehension.
func (w *writer) quantified(op, levels int) api.Node {
	domain := w.relation(1, min(2, levels-1))
	n := api.Node{Op: op, Name: Pick(w.Source, []string{"x", "y", "z", "f", "v1"}), At: w.Below(100)}
	w.env = append(w.env[:len(w.env):len(w.env)], n.Name)
	n.Kids = []api.Node{domain, w.formula(levels - 1)}
	w.env = w.env[:len(w.env)-1]
	return n
}

// call returns a call of a predicate, if there is one that may be called here.
func (w *writer) call(levels int) (api.Node, bool) {
	if len(w.sp.Preds) == 0 {
		return api.Node{}, false
	}
	q := Pick(w.Source, w.sp.Preds)
	n := api.Node{Op: api.OpCall, Name: q.Name, At: w.Below(100)}
	inner := w.inside()
	for _, p := range q.Params {
		sort := api.Node{Op: api.OpName, Name: w.sp.Sorts[p.Sort].Name}
		n.Kids = append(n.Kids, w.node(api.OpInter, sort, inner.relation(1, min(2, levels-1))))
	}
	return n, w.temporal || !usesTime(w.sp, q.Body)
}

// inside returns a writer for places where temporal operators are forbidden.
func (w *writer) inside() *writer {
	return &writer{Source: w.Source, sp: w.sp, env: w.env}
}

// usesTime reports whether a tree has a temporal operator, directly or by a call.
func usesTime(sp api.Spec, n api.Node) bool {
	switch n.Op {
	case api.OpPrime, api.OpAlways, api.OpEventual, api.OpAfter, api.OpUntil:
		return true
	}
	for _, q := range sp.Preds {
		if n.Op == api.OpCall && q.Name == n.Name {
			return usesTime(sp, q.Body)
		}
	}
	for _, kid := range n.Kids {
		if usesTime(sp, kid) {
			return true
		}
	}
	return false
}

// integer returns an integer expression.
func (w *writer) integer(levels int) api.Node {
	if levels <= 1 {
		return api.Node{Op: api.OpLit, N: w.Between(-1, 4), At: w.Below(100)}
	}
	if w.Chance(30) {
		return w.node(Pick(w.Source, []int{api.OpAdd, api.OpSub}), w.integer(levels-1), w.integer(levels-1))
	}
	return w.node(api.OpCard, w.relation(w.Between(1, 2), levels-1))
}

// relation returns a relational expression of an arity.
func (w *writer) relation(arity, levels int) api.Node {
	if levels <= 1 || w.Chance(20) {
		return w.leafRelation(arity)
	}
	switch w.Below(9) {
	case 0, 1, 2:
		op := Pick(w.Source, []int{api.OpUnion, api.OpInter, api.OpDiff, api.OpOverride})
		return w.node(op, w.relation(arity, levels-1), w.relation(arity, levels-1))
	case 3, 4:
		first := w.Between(1, 3)
		second := arity + 2 - first
		if second >= 1 && second <= 3 {
			return w.node(api.OpJoin, w.relation(first, levels-1), w.relation(second, levels-1))
		}
	case 5:
		if arity > 1 {
			first := w.Between(1, arity-1)
			return w.node(api.OpProduct, w.relation(first, levels-1), w.relation(arity-first, levels-1))
		}
	case 6:
		if arity == 2 {
			return w.closed(levels)
		}
	case 7:
		if w.temporal {
			return w.node(api.OpPrime, w.relation(arity, levels-1))
		}
	case 8:
		if arity == 1 {
			return w.inside().quantified(api.OpCompr, min(levels, 3))
		}
	}
	return w.leafRelation(arity)
}

// closed returns a transposition or a closure.
func (w *writer) closed(levels int) api.Node {
	op := Pick(w.Source, []int{api.OpTranspose, api.OpClosure, api.OpReflexive})
	if op == api.OpTranspose {
		return w.node(op, w.relation(2, levels-1))
	}
	return w.node(op, w.inside().relation(2, levels-1))
}

// leafRelation returns a name or a constant of an arity, or a product of names.
func (w *writer) leafRelation(arity int) api.Node {
	var names []string
	for _, f := range w.sp.Fields {
		if len(f.Sorts) == arity && !w.hidden(f.Name) {
			names = append(names, f.Name, f.Name, f.Name)
		}
	}
	if arity == 1 {
		names = append(names, w.env...)
	}
	for _, t := range w.sp.Sorts {
		if arity == 1 {
			names = append(names, t.Name)
		}
		if t.Ordered && arity == 1 {
			names = append(names, t.Name+"_first")
		}
		if t.Ordered && arity == 2 {
			names = append(names, t.Name+"_next")
		}
	}
	switch {
	case w.Chance(5) || len(names) == 0 && arity == 3:
		return api.Node{Op: api.OpNone, N: arity, At: w.Below(100)}
	case w.Chance(8) && arity == 1:
		return w.node(api.OpUniv)
	case (w.Chance(8) || len(names) == 0) && arity == 2:
		return w.node(api.OpIden)
	}
	return api.Node{Op: api.OpName, Name: Pick(w.Source, names), At: w.Below(100)}
}

// hidden reports whether a variable has a name.
func (w *writer) hidden(name string) bool {
	for _, x := range w.env {
		if x == name {
			return true
		}
	}
	return false
}
