package parse

import "sepal/api"

func (p *parser) program() api.Program {
	var r api.Program
	for p.failed == api.OK && p.at < len(p.tokens) {
		p.item(&r)
	}
	return r
}

func (p *parser) item(r *api.Program) {
	place := p.next().Pos
	switch {
	case p.take("record"):
		r.Records = append(r.Records, p.record())
	case p.take("global"):
		r.Globals = append(r.Globals, p.declaration())
	case p.take("lock"):
		r.Locks = append(r.Locks, p.lock())
	case p.take("predicate"):
		r.Defs = append(r.Defs, p.def())
	case p.take("lemma"):
		r.Lemmas = append(r.Lemmas, p.lemma())
	case p.take("procedure"):
		r.Procs = append(r.Procs, p.proc(place))
	default:
		p.fail()
	}
}

func (p *parser) declaration() api.Param {
	x := p.param()
	p.expect(";")
	return x
}

func (p *parser) record() api.Record {
	name := p.name()
	p.expect("{")
	return api.Record{Name: name, Fields: until(p, "}", p.declaration)}
}

func (p *parser) lock() api.Lock {
	name := p.name()
	p.expect("invariant")
	return api.Lock{Name: name, Inv: p.endedAssertion()}
}

func (p *parser) endedAssertion() []api.Formula {
	l := p.assertion()
	p.expect(";")
	return l
}

func (p *parser) def() api.Def {
	d := api.Def{Name: p.name(), Params: p.givenParams()}
	p.expect("=")
	d.Cases = p.endedAssertion()
	return d
}

// givenParams takes one or more parameters in parentheses.
func (p *parser) givenParams() []api.Param {
	p.expect("(")
	l := p.params()
	p.expect(")")
	return l
}

func (p *parser) lemma() api.Lemma {
	m := api.Lemma{Name: p.name(), Params: parenthesized(p, p.params)}
	p.expect(":")
	m.Left = p.formula()
	p.expect("==>")
	m.Right = p.formula()
	p.expect(";")
	return m
}

func (p *parser) proc(place api.Pos) api.Proc {
	x := api.Proc{Pos: place, Name: p.name(), Params: parenthesized(p, p.params)}
	if p.take("returns") {
		p.expect("(")
		x.Result = p.param()
		p.expect(")")
	}
	p.contract(&x)
	p.expect("{")
	for p.declares() {
		x.Locals = append(x.Locals, p.declaration())
	}
	x.Body = until(p, "}", p.statement)
	return x
}

// contract takes a contract, if there is one.
func (p *parser) contract(x *api.Proc) {
	logical := p.take("logical")
	if logical {
		x.Logical = p.givenParams()
	}
	if !logical && p.next().Text != "requires" {
		return
	}
	p.expect("requires")
	x.Contract = true
	x.Requires = p.assertion()
	p.expect("ensures")
	x.Ensures = p.assertion()
}

// declares reports whether the declaration of a local variable comes next.
func (p *parser) declares() bool {
	t := p.next()
	return t.Text == "int" || isName(t) && isName(p.token(p.at+1))
}
