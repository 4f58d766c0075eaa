package parse

import "sepal/api"

func (p *parser) block() []api.Stmt {
	p.expect("{")
	return until(p, "}", p.statement)
}

func (p *parser) statement() api.Stmt {
	place := p.next().Pos
	s := p.statementWithoutPlace()
	s.Pos = place
	return s
}

func (p *parser) statementWithoutPlace() api.Stmt {
	switch {
	case p.take("free"):
		return p.ended(api.Stmt{Kind: api.Free, Name: p.name()})
	case p.take("if"):
		s := api.Stmt{Kind: api.If, C: p.test(), Body: p.block()}
		if p.take("else") {
			s.Else = p.block()
		}
		return s
	case p.take("while"):
		s := api.Stmt{Kind: api.While, C: p.test()}
		if p.take("invariant") {
			s.Inv = p.assertion()
		}
		s.Body = p.block()
		return s
	case p.take("assert"):
		return p.ended(api.Stmt{Kind: api.Assert, C: p.cond()})
	case p.take("with"):
		return api.Stmt{Kind: api.With, Name: p.name(), Body: p.block()}
	case p.take("par"):
		return api.Stmt{Kind: api.Par, Calls: []api.Call{p.thread(), p.thread()}}
	}
	return p.ended(p.named())
}

// ended takes the semicolon behind a statement.
func (p *parser) ended(s api.Stmt) api.Stmt {
	p.expect(";")
	return s
}

// test takes a condition in parentheses.
func (p *parser) test() api.Cond {
	p.expect("(")
	c := p.cond()
	p.expect(")")
	return c
}

// named takes a statement that begins with a name.
func (p *parser) named() api.Stmt {
	if p.begins("(") {
		return api.Stmt{Kind: api.Invoke, Calls: []api.Call{p.call("")}}
	}
	name := p.name()
	if p.take(".") {
		field := p.name()
		p.expect("=")
		return api.Stmt{Kind: api.Save, Name: name, Field: field, E: p.expr()}
	}
	p.expect("=")
	return p.assigned(name)
}

// assigned takes what is assigned to this name.
func (p *parser) assigned(name string) api.Stmt {
	switch {
	case p.take("new"):
		return api.Stmt{Kind: api.New, Name: name, From: p.name()}
	case p.take("input"):
		return api.Stmt{Kind: api.Input, Name: name}
	case p.begins("."):
		from := p.name()
		p.expect(".")
		return api.Stmt{Kind: api.Load, Name: name, From: from, Field: p.name()}
	case p.begins("("):
		return api.Stmt{Kind: api.Invoke, Calls: []api.Call{p.call(name)}}
	}
	return api.Stmt{Kind: api.Assign, Name: name, E: p.expr()}
}

func (p *parser) call(result string) api.Call {
	return api.Call{Result: result, Proc: p.name(), Args: parenthesized(p, p.exprs)}
}

// thread takes one of the calls of a par.
func (p *parser) thread() api.Call {
	p.expect("{")
	result := ""
	if p.begins("=") {
		result = p.name()
		p.expect("=")
	}
	c := p.call(result)
	p.expect(";")
	p.expect("}")
	return c
}
