package parse

import (
	"strconv"

	"sepal/api"
	"sepal/lex"
)

func (p *parser) expr() api.Expr {
	e := p.term()
	for kind := p.operator(sum); kind != 0; kind = p.operator(sum) {
		e = api.Expr{Kind: kind, L: []api.Expr{e, p.term()}}
	}
	return e
}

// sum returns the kind of a sum or a difference with this symbol; 0 if there is none.
func sum(symbol string) int {
	switch symbol {
	case "+":
		return api.Add
	case "-":
		return api.Sub
	}
	return 0
}

func (p *parser) term() api.Expr {
	switch {
	case p.next().Kind == lex.Number:
		return p.product(1)
	case p.take("-"):
		return p.product(-1)
	case p.take("null"):
		return api.Expr{Kind: api.Null}
	case p.take("("):
		e := p.expr()
		p.expect(")")
		return e
	}
	return api.Expr{Kind: api.Var, Name: p.name()}
}

// product takes a number, which has this sign, and what it is multiplied by.
func (p *parser) product(sign int) api.Expr {
	n := sign * p.number()
	if p.take("*") {
		return api.Expr{Kind: api.Mul, N: n, L: []api.Expr{p.term()}}
	}
	return api.Expr{Kind: api.Num, N: n}
}

func (p *parser) number() int {
	t := p.next()
	if t.Kind != lex.Number {
		p.fail()
		return 0
	}
	p.at++
	n, _ := strconv.Atoi(t.Text)
	return n
}

func (p *parser) exprs() []api.Expr {
	return separated(p, ",", p.expr)
}

// relation returns the kind of a comparison with this symbol; 0 if there is none.
func relation(symbol string) int {
	switch symbol {
	case "==":
		return api.Eq
	case "!=":
		return api.Ne
	case "<=":
		return api.Le
	case "<":
		return api.Lt
	}
	return 0
}

// compared takes what follows the left side of a comparison.
func (p *parser) compared() (int, api.Expr) {
	kind := p.operator(relation)
	if kind == 0 {
		p.fail()
		return 0, api.Expr{}
	}
	return kind, p.expr()
}

func (p *parser) cond() api.Cond {
	c := p.and()
	for p.take("||") {
		c = api.Cond{Kind: api.Or, L: []api.Cond{c, p.and()}}
	}
	return c
}

func (p *parser) and() api.Cond {
	c := p.not()
	for p.take("&&") {
		c = api.Cond{Kind: api.And, L: []api.Cond{c, p.not()}}
	}
	return c
}

func (p *parser) not() api.Cond {
	if p.take("!") {
		return api.Cond{Kind: api.Not, L: []api.Cond{p.not()}}
	}
	if !p.operandInParentheses() && p.take("(") {
		c := p.cond()
		p.expect(")")
		return c
	}
	a := p.expr()
	kind, b := p.compared()
	return api.Cond{Kind: kind, A: a, B: b}
}

// operandInParentheses reports whether the parentheses that come next enclose an expression and not a condition: what is behind them tells it.
func (p *parser) operandInParentheses() bool {
	if p.next().Text != "(" || p.closing[p.at] == 0 {
		return false
	}
	behind := p.token(p.closing[p.at] + 1).Text
	return relation(behind) != 0 || sum(behind) != 0
}
