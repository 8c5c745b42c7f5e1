package lasso

import (
	"armature/api"
	"armature/bounds"
)

// place is a tuple of a field in a state.
type place struct {
	state int
	field int
	rank  int
}

// layout numbers the variables of a scope with bounds.
type layout struct {
	api.Scope
	fields  []api.Field
	bounds  []api.Bound
	numbers map[place]int // the variables of the free tuples in the states that have some of their own
}

// newLayout returns the layout of a scope with bounds; bounds that do not belong to the fields are ignored.
func newLayout(sp api.Spec, sc api.Scope, b []api.Bound) *layout {
	if len(b) != len(sp.Fields) {
		b = nil
	}
	l := &layout{Scope: sc, fields: sp.Fields, bounds: b, numbers: map[place]int{}}
	for at := range l.free {
		if _, ok := l.numbers[at]; !ok {
			l.numbers[at] = l.variables() + 1
		}
	}
	return l
}

// selections returns the number of selection variables.
func (l *layout) selections() int {
	if l.Steps < 2 {
		return 0
	}
	return l.Steps
}

// variables returns the number of variables.
func (l *layout) variables() int {
	return l.selections() + len(l.numbers)
}

// selection returns the variable that selects a loop.
func (l *layout) selection(loop int) int {
	return l.Steps - loop
}

// free yields the places that have variables of their own, in the order of the variables.
func (l *layout) free(yield func(place) bool) {
	tuples := bounds.Free(l.bounds)
	for state := range l.Steps {
		for _, x := range tuples {
			if state > 0 && !l.fields[x[0]].Var {
				continue
			}
			if !yield(place{state, x[0], x[1]}) {
				return
			}
		}
	}
}

// variable returns the variable of a tuple of a field in a state; ok is false if the tuple is not free.
func (l *layout) variable(at place) (v int, ok bool) {
	if !l.fields[at.field].Var {
		at.state = 0
	}
	v, ok = l.numbers[at]
	return v, ok
}

// upper yields the tuples of the upper bounds as places, state by state.
func (l *layout) upper(yield func(place) bool) {
	for state := range l.Steps {
		for field, b := range l.bounds {
			for _, rank := range b.Upper.Tuples {
				if !yield(place{state, field, rank}) {
					return
				}
			}
		}
	}
}
