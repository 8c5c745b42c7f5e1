package typing

import "armature/api"

// sorts is a tuple of sort indices; the elements beyond the arity are 0, so that equal tuples are equal arrays.
type sorts [api.MaxArity]int

// relationType is the type of a relational expression.
type relationType struct {
	arity  int
	tuples map[sorts]bool
}

// typeOf returns the type with a single tuple.
func typeOf(tuple ...int) relationType {
	t := emptyType(len(tuple))
	t.add(tuple...)
	return t
}

// emptyType returns the type without tuples.
func emptyType(arity int) relationType {
	return relationType{arity: arity, tuples: map[sorts]bool{}}
}

// add adds a tuple to a type under construction.
func (t relationType) add(tuple ...int) {
	var x sorts
	for i, sort := range tuple {
		x[i] = sort
	}
	t.tuples[x] = true
}

// filtered returns the type with the tuples for which keep is true.
func (t relationType) filtered(keep func(sorts) bool) relationType {
	out := emptyType(t.arity)
	for x := range t.tuples {
		if keep(x) {
			out.tuples[x] = true
		}
	}
	return out
}

// union returns the tuples of both types.
func (t relationType) union(u relationType) relationType {
	out := t.filtered(func(sorts) bool { return true })
	for x := range u.tuples {
		out.tuples[x] = true
	}
	return out
}

// join returns the tuples of both types without the sorts at which they meet.
func (t relationType) join(u relationType) relationType {
	out := emptyType(t.arity + u.arity - 2)
	for x := range t.tuples {
		for y := range u.tuples {
			if x[t.arity-1] == y[0] {
				out.add(append(append([]int{}, x[:t.arity-1]...), y[1:u.arity]...)...)
			}
		}
	}
	return out
}

// product returns each tuple of the first type followed by each tuple of the second one.
func (t relationType) product(u relationType) relationType {
	out := emptyType(t.arity + u.arity)
	for x := range t.tuples {
		for y := range u.tuples {
			out.add(append(append([]int{}, x[:t.arity]...), y[:u.arity]...)...)
		}
	}
	return out
}

// transpose returns the reversed pairs.
func (t relationType) transpose() relationType {
	out := emptyType(t.arity)
	for x := range t.tuples {
		out.add(x[1], x[0])
	}
	return out
}

// closure returns the transitive closure of a binary type.
func (t relationType) closure() relationType {
	for {
		more := t.union(t.join(t))
		if len(more.tuples) == len(t.tuples) {
			return more
		}
		t = more
	}
}

// universal returns the type that contains each of the first sorts, repeated as often as the arity says.
func universal(arity, count int) relationType {
	out := emptyType(arity)
	for sort := range count {
		out.add([]int{sort, sort, sort}[:arity]...)
	}
	return out
}

// only reports whether a unary type contains no other sort than the given one.
func (t relationType) only(sort int) bool {
	return len(t.filtered(func(x sorts) bool { return x[0] != sort }).tuples) == 0
}
