package parser

import "armature/api"

// Levels of operators that the recursion refers to by name.
const (
	formulaLevel    = 1
	comparisonLevel = 7
	expressionLevel = 8
	highestLevel    = 14
)

// operator describes an operator by its level and its nodes.
type operator struct {
	level   int
	op      int
	integer int // the operator for integers, if it differs from op
	right   bool
	negated bool // the node is the negation of op
	swapped bool // the operands are exchanged
}

// infixOperators returns the operators that stand between two operands.
func infixOperators() map[string]operator {
	return map[string]operator{
		"<=>":   {level: 1, op: api.OpIff},
		"=>":    {level: 2, op: api.OpImplies, right: true},
		"||":    {level: 3, op: api.OpOr},
		"&&":    {level: 4, op: api.OpAnd},
		"until": {level: 5, op: api.OpUntil, right: true},
		"in":    {level: comparisonLevel, op: api.OpIn},
		"=":     {level: comparisonLevel, op: api.OpEqual, integer: api.OpIntEq},
		"!=":    {level: comparisonLevel, op: api.OpEqual, integer: api.OpIntEq, negated: true},
		"<":     {level: comparisonLevel, op: api.OpLess},
		"<=":    {level: comparisonLevel, op: api.OpLess, negated: true, swapped: true},
		"+":     {level: 8, op: api.OpUnion, integer: api.OpAdd},
		"-":     {level: 8, op: api.OpDiff, integer: api.OpSub},
		"++":    {level: 9, op: api.OpOverride},
		"&":     {level: 10, op: api.OpInter},
		"->":    {level: 11, op: api.OpProduct},
		".":     {level: 12, op: api.OpJoin},
	}
}

// prefixOperators returns the operators that stand before an operand, with the least level of the operators in that operand.
func prefixOperators() map[string]operator {
	return map[string]operator{
		"not":        {level: 6, op: api.OpNot},
		"always":     {level: 6, op: api.OpAlways},
		"eventually": {level: 6, op: api.OpEventual},
		"after":      {level: 6, op: api.OpAfter},
		"no":         {level: expressionLevel, op: api.OpNo},
		"some":       {level: expressionLevel, op: api.OpSome},
		"one":        {level: expressionLevel, op: api.OpOne},
		"lone":       {level: expressionLevel, op: api.OpLone},
		"#":          {level: 12, op: api.OpCard},
		"~":          {level: 13, op: api.OpTranspose},
		"^":          {level: 13, op: api.OpClosure},
		"*":          {level: 13, op: api.OpReflexive},
	}
}

// formula reads a whole formula.
func (p *parser) formula() api.Node {
	first := p.peek()
	n := p.part(formulaLevel)
	if kindOf(n.Op) != formulaKind {
		fail(api.ErrKind, first.At)
	}
	if !ValidNode(n) {
		fail(api.ErrLimit, first.At)
	}
	return n
}

// part reads an operand and the operators of at least the given level that follow it, as one of the parts whose nesting is limited.
func (p *parser) part(level int) api.Node {
	if t := p.peek(); p.depth == maxNesting {
		fail(api.ErrLimit, t.At)
	}
	p.depth++
	n := p.operation(level)
	p.depth--
	return n
}

// operation reads an operand and the operators of at least the given level that follow it.
func (p *parser) operation(least int) api.Node {
	left := p.operand()
	// An operator above the level of the one before can only follow a comparison that is not associative.
	most := highestLevel
	for p.at < len(p.tokens) {
		o, ok := p.infix[p.peek().Text]
		if !ok || o.level < least || o.level > most {
			break
		}
		at := p.take().At
		rightLevel := o.level + 1
		if o.right {
			rightLevel = o.level
		}
		left = combine(o, at, left, p.part(rightLevel))
		most = o.level
		if o.level == comparisonLevel {
			most--
		}
	}
	return left
}

// combine returns the node of an infix operator with its operands.
func combine(o operator, at int, left, right api.Node) api.Node {
	if o.swapped {
		left, right = right, left
	}
	op := o.op
	if o.integer != 0 && kindOf(left.Op) == integerKind {
		op = o.integer
	}
	n := checked(api.Node{Op: op, Kids: []api.Node{left, right}, At: at})
	if o.negated {
		n = api.Node{Op: api.OpNot, Kids: []api.Node{n}, At: at}
	}
	return n
}

// checked returns a node whose kids have the required kinds; it fails for others.
func checked(n api.Node) api.Node {
	if !kidsFit(n) {
		fail(api.ErrKind, n.At)
	}
	return n
}

// operand reads a primary with its postfix operators, or a prefix operator with its operand.
func (p *parser) operand() api.Node {
	if p.ahead(0, "all") || p.ahead(0, "some") && p.quantifierAhead() {
		return p.quantifier()
	}
	if o, ok := p.prefix[p.peek().Text]; ok {
		at := p.take().At
		return checked(api.Node{Op: o.op, Kids: []api.Node{p.part(o.level)}, At: at})
	}
	n := p.primary()
	for p.ahead(0, "'") {
		at := p.take().At
		n = checked(api.Node{Op: api.OpPrime, Kids: []api.Node{n}, At: at})
	}
	return n
}

// quantifierAhead reports whether a name and a colon follow the next token.
func (p *parser) quantifierAhead() bool {
	return p.at+1 < len(p.tokens) && isName(p.tokens[p.at+1]) && p.ahead(2, ":")
}

// quantifier reads a quantified formula.
func (p *parser) quantifier() api.Node {
	t := p.take()
	op := api.OpAll
	if t.Text == "some" {
		op = api.OpExists
	}
	return p.binder(op, t.At)
}

// binder reads what quantifiers and comprehensions have in common: the variable, its domain, and the formula.
func (p *parser) binder(op, at int) api.Node {
	n := api.Node{Op: op, Name: p.name().Text, At: at}
	p.expect(":")
	domain := p.part(expressionLevel)
	p.expect("|")
	n.Kids = []api.Node{domain, p.part(formulaLevel)}
	return checked(n)
}

// primary reads a primary that is no quantifier.
func (p *parser) primary() api.Node {
	t := p.peek()
	if t.Kind == api.Number {
		return p.literal(t.At, 1)
	}
	switch t.Text {
	case "true":
		return api.Node{Op: api.OpTrue, At: p.take().At}
	case "false":
		return api.Node{Op: api.OpFalse, At: p.take().At}
	case "univ":
		return api.Node{Op: api.OpUniv, At: p.take().At}
	case "iden":
		return api.Node{Op: api.OpIden, At: p.take().At}
	case "none":
		return p.none()
	case "-":
		p.take()
		return p.literal(t.At, -1)
	case "(":
		p.take()
		n := p.part(formulaLevel)
		p.expect(")")
		return n
	case "{":
		p.take()
		n := p.binder(api.OpCompr, t.At)
		p.expect("}")
		return n
	}
	p.name()
	if p.ahead(0, "[") {
		return p.call(t)
	}
	return api.Node{Op: api.OpName, Name: t.Text, At: t.At}
}

// literal reads a number; its node begins at the given offset.
func (p *parser) literal(at, sign int) api.Node {
	t := p.peek()
	if t.Kind != api.Number {
		p.unexpected()
	}
	if number(t) > api.MaxInt {
		fail(api.ErrLimit, t.At)
	}
	p.take()
	return api.Node{Op: api.OpLit, N: sign * number(t), At: at}
}

// none reads an empty relation.
func (p *parser) none() api.Node {
	n := api.Node{Op: api.OpNone, N: 1, At: p.take().At}
	if !p.ahead(0, "[") {
		return n
	}
	p.take()
	t := p.peek()
	if t.Kind != api.Number || number(t) < 1 || number(t) > api.MaxArity {
		p.unexpected()
	}
	n.N = number(p.take())
	p.expect("]")
	return n
}

// call reads the arguments of a call.
func (p *parser) call(name api.Token) api.Node {
	n := api.Node{Op: api.OpCall, Name: name.Text, At: name.At}
	p.expect("[")
	p.commaSeparated(func() {
		n.Kids = append(n.Kids, p.part(expressionLevel))
	})
	p.expect("]")
	return checked(n)
}
