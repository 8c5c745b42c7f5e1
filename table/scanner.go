package table

import (
	"strings"

	"armature/api"
	"armature/universe"
)

// maxDigits bounds the numbers in a table.
const maxDigits = 3

// scanner reads a text from its beginning. The first mismatch is a panic with errMismatch.
type scanner struct{ rest string }

// word moves past a word, if the text goes on with it.
func (c *scanner) word(word string) bool {
	rest, ok := strings.CutPrefix(c.rest, word)
	c.rest = rest
	return ok
}

// expect moves past words, which must come next.
func (c *scanner) expect(words ...string) {
	for _, word := range words {
		if !c.word(word) {
			panic(errMismatch)
		}
	}
}

// number moves past a number.
func (c *scanner) number() int {
	value, digits := 0, 0
	for digits < len(c.rest) && digits <= maxDigits && '0' <= c.rest[digits] && c.rest[digits] <= '9' {
		value = 10*value + int(c.rest[digits]-'0')
		digits++
	}
	if digits == 0 || digits > maxDigits {
		panic(errMismatch)
	}
	c.rest = c.rest[digits:]
	return value
}

// model moves past a table and returns its model, which need not be valid.
func (c *scanner) model(sp api.Spec) api.Model {
	var m api.Model
	c.expect("scope")
	for _, s := range sp.Sorts {
		c.expect(" ", s.Name, "=")
		m.Scope.Atoms = append(m.Scope.Atoms, c.number())
	}
	c.expect(" steps=")
	m.Scope.Steps = c.number()
	c.expect(" loop=")
	m.Loop = c.number()
	c.expect("\n")
	if !universe.Valid(sp, m.Scope) {
		panic(errMismatch)
	}
	for i := range m.Scope.Steps {
		c.expect("state ")
		if c.number() != i {
			panic(errMismatch)
		}
		c.expect("\n")
		var state []api.Rel
		for _, f := range sp.Fields {
			c.expect(f.Name, " = {")
			state = append(state, c.relation(sp, m.Scope, f))
			c.expect("}\n")
		}
		m.States = append(m.States, state)
	}
	return m
}

// relation moves past the tuples of a field.
func (c *scanner) relation(sp api.Spec, sc api.Scope, f api.Field) api.Rel {
	r := api.Rel{Arity: len(f.Sorts)}
	if universe.Full(sc, f.Sorts).Arity == 0 {
		panic(errMismatch) // no model is valid for such a field
	}
	if strings.HasPrefix(c.rest, "}") {
		return r
	}
	for {
		var tuple []int
		for i, sort := range f.Sorts {
			if i > 0 {
				c.expect("->")
			}
			c.expect(sp.Sorts[sort].Name, "$")
			tuple = append(tuple, universe.First(sc, sort)+c.number())
		}
		r.Tuples = append(r.Tuples, universe.Rank(sc, tuple))
		if !c.word(", ") {
			return r
		}
	}
}
