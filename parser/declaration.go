package parser

import "armature/api"

// declaration reads a declaration and adds it to the specification. It changes the specification last, so that a declaration with a diagnostic leaves nothing behind.
func (p *parser) declaration() {
	p.depth = 0
	readers := map[string]func(){
		"sort":  p.sort,
		"var":   p.field,
		"field": p.field,
		"pred":  p.predicate,
		"fact":  p.fact,
	}
	read, ok := readers[p.peek().Text]
	if !ok {
		p.unexpected()
	}
	read()
}

// recoverAtEnd skips the rest of a declaration with a diagnostic.
func (p *parser) recoverAtEnd() {
	for p.at < len(p.tokens) {
		text := p.take().Text
		if text == ";" || text == "}" {
			return
		}
	}
}

// begin consumes the first token of a declaration unless there are already as many declarations as the limit permits.
func (p *parser) begin(declared, limit int) api.Token {
	if declared >= limit {
		fail(api.ErrLimit, p.peek().At)
	}
	return p.take()
}

// sort reads the declaration of a sort.
func (p *parser) sort() {
	p.begin(len(p.spec.Sorts), api.MaxSorts)
	s := api.Sort{Name: p.name().Text}
	if p.ahead(0, "ordered") {
		p.take()
		s.Ordered = true
	}
	p.expect(";")
	p.spec.Sorts = append(p.spec.Sorts, s)
}

// field reads the declaration of a field.
func (p *parser) field() {
	first := p.begin(len(p.spec.Fields), api.MaxFields)
	f := api.Field{Var: first.Text == "var"}
	if f.Var {
		p.expect("field")
	}
	f.Name = p.name().Text
	p.expect(":")
	f.Sorts = []int{p.sortName()}
	for len(f.Sorts) < api.MaxArity && p.ahead(0, "->") {
		p.take()
		f.Sorts = append(f.Sorts, p.sortName())
	}
	p.expect(";")
	p.spec.Fields = append(p.spec.Fields, f)
}

// predicate reads the declaration of a predicate.
func (p *parser) predicate() {
	p.begin(len(p.spec.Preds), api.MaxPreds)
	q := api.Pred{Name: p.name().Text}
	p.expect("[")
	p.commaSeparated(func() {
		x := api.Param{Name: p.name().Text}
		p.expect(":")
		x.Sort = p.sortName()
		q.Params = append(q.Params, x)
	})
	p.expect("]")
	q.Body = p.body()
	p.spec.Preds = append(p.spec.Preds, q)
}

// fact reads the declaration of a fact.
func (p *parser) fact() {
	p.begin(len(p.spec.Facts), api.MaxFacts)
	f := api.Fact{Name: p.name().Text}
	f.Body = p.body()
	p.spec.Facts = append(p.spec.Facts, f)
}

// body reads a formula in braces.
func (p *parser) body() api.Node {
	p.expect("{")
	n := p.formula()
	p.expect("}")
	return n
}

// sortName reads the name of a sort and returns the index of the last sort with that name.
func (p *parser) sortName() int {
	t := p.name()
	for i := len(p.spec.Sorts) - 1; i >= 0; i-- {
		if p.spec.Sorts[i].Name == t.Text {
			return i
		}
	}
	fail(api.ErrName, t.At)
	return -1
}
