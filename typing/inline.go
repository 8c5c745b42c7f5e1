package typing

import (
	"strconv"

	"armature/api"
)

// maxCost bounds the number of nodes that an expansion visits.
const maxCost = 4000

// meaning says what stands for a name in an expansion: another name for a variable, a tree for a parameter.
type meaning struct {
	name  string
	other string
	tree  api.Node
	size  int // the number of nodes of the tree, or 0 for a variable
}

// expander expands calls. It panics with an api.Diagnostic when a limit is exceeded.
type expander struct {
	sp    api.Spec
	taken map[string]bool // the names that are not fresh
	fresh int
	cost  int
}

// Inline expands all predicate calls.
func Inline(sp api.Spec, n api.Node) (out api.Node, e api.Errno) {
	defer func() {
		if d, ok := recover().(api.Diagnostic); ok {
			out, e = api.Node{}, d.Err
		}
	}()
	if d := CheckFormula(sp, nil, n); d.Err != api.OK {
		return api.Node{}, d.Err
	}
	if !hasCall(n) {
		return copied(n), api.OK
	}
	x := &expander{sp: sp, taken: map[string]bool{}}
	x.take(n)
	for _, q := range sp.Preds {
		x.take(q.Body)
	}
	out = x.expand(n, nil, false)
	if size(out) > api.MaxNodes || depth(out) > api.MaxDepth {
		return api.Node{}, api.ErrLimit
	}
	return out, api.OK
}

// hasCall reports whether a tree contains a call.
func hasCall(n api.Node) bool {
	for _, kid := range n.Kids {
		if hasCall(kid) {
			return true
		}
	}
	return n.Op == api.OpCall
}

// size returns the number of nodes of a tree.
func size(n api.Node) int {
	total := 1
	for _, kid := range n.Kids {
		total += size(kid)
	}
	return total
}

// depth returns the number of levels of a tree.
func depth(n api.Node) int {
	most := 0
	for _, kid := range n.Kids {
		most = max(most, depth(kid))
	}
	return most + 1
}

// copied returns a tree that shares no memory with n.
func copied(n api.Node) api.Node {
	kids := n.Kids
	n.Kids = nil
	for _, kid := range kids {
		n.Kids = append(n.Kids, copied(kid))
	}
	return n
}

// take excludes the names of a tree from the fresh ones.
func (x *expander) take(n api.Node) {
	x.taken[n.Name] = true
	for _, kid := range n.Kids {
		x.take(kid)
	}
}

// freshName returns the next fresh name.
func (x *expander) freshName() string {
	for {
		x.fresh++
		name := "v" + strconv.Itoa(x.fresh)
		if !x.taken[name] && !isGlobal(x.sp, name) {
			return name
		}
	}
}

// isGlobal reports whether a name is that of a field, a sort or a constant.
func isGlobal(sp api.Spec, name string) bool {
	return len(globals(sp, name)) > 0
}

// pay adds visited nodes to the cost.
func (x *expander) pay(nodes int) {
	x.cost += nodes
	if x.cost > maxCost {
		panic(api.Diagnostic{Err: api.ErrLimit})
	}
}

// expand returns the expansion of a tree, which belongs to the body of a predicate or to the formula itself.
func (x *expander) expand(n api.Node, env []meaning, inBody bool) api.Node {
	x.pay(1)
	switch n.Op {
	case api.OpName:
		return x.name(n, env)
	case api.OpCall:
		return x.call(n, env, inBody)
	case api.OpCompr, api.OpAll, api.OpExists:
		return x.binder(n, env, inBody)
	}
	kids := n.Kids
	n.Kids = nil
	for _, kid := range kids {
		n.Kids = append(n.Kids, x.expand(kid, env, inBody))
	}
	return n
}

// name returns what stands for a name.
func (x *expander) name(n api.Node, env []meaning) api.Node {
	for i := len(env) - 1; i >= 0; i-- {
		m := env[i]
		if m.name != n.Name {
			continue
		}
		if m.size > 0 {
			x.pay(m.size)
			return copied(m.tree)
		}
		n.Name = m.other
		break
	}
	n.Kids = nil
	return n
}

// call returns the expansion of the body of the called predicate.
func (x *expander) call(n api.Node, env []meaning, inBody bool) api.Node {
	q := x.sp.Preds[predicate(x.sp, len(x.sp.Preds), n.Name)]
	var params []meaning
	for i, kid := range n.Kids {
		tree := x.expand(kid, env, inBody)
		params = append(params, meaning{name: q.Params[i].Name, tree: tree, size: size(tree)})
	}
	return x.expand(q.Body, params, true)
}

// binder expands a comprehension or a quantifier. Its variable gets a fresh name where it could capture a name.
func (x *expander) binder(n api.Node, env []meaning, inBody bool) api.Node {
	domain := x.expand(n.Kids[0], env, inBody)
	m := meaning{name: n.Name, other: n.Name}
	if inBody || isGlobal(x.sp, n.Name) {
		m.other = x.freshName()
	}
	inner := append(env[:len(env):len(env)], m)
	n.Name = m.other
	n.Kids = []api.Node{domain, x.expand(n.Kids[1], inner, inBody)}
	return n
}
