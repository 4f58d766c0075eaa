package parse

import "sepal/api"

func (p *parser) assertion() []api.Formula {
	return separated(p, "||", p.formula)
}

func (p *parser) formula() api.Formula {
	var f api.Formula
	if p.take("exists") {
		f.Exists = p.params()
		p.expect(":")
	}
	p.part(&f)
	for p.take("&") {
		p.part(&f)
	}
	return f
}

// part takes a part of a formula, and adds it to where it belongs; emp belongs nowhere.
func (p *parser) part(f *api.Formula) {
	switch {
	case p.take("emp"):
	case p.begins("("):
		f.Cells = append(f.Cells, api.Cell{Kind: api.Pred, Name: p.name(), Args: p.args()})
	default:
		p.comparisonOrPointsTo(f)
	}
}

func (p *parser) comparisonOrPointsTo(f *api.Formula) {
	a := p.expr()
	if p.take("->") {
		record := p.name()
		f.Cells = append(f.Cells, api.Cell{Kind: api.PointsTo, Name: record, Args: append([]api.Expr{a}, p.args()...)})
		return
	}
	kind, b := p.compared()
	f.Pure = append(f.Pure, api.Atom{Kind: kind, A: a, B: b})
}

// args takes one or more expressions in parentheses.
func (p *parser) args() []api.Expr {
	p.expect("(")
	l := p.exprs()
	p.expect(")")
	return l
}

func (p *parser) params() []api.Param {
	return separated(p, ",", p.param)
}

func (p *parser) param() api.Param {
	return api.Param{Type: p.typeName(), Name: p.name()}
}

func (p *parser) typeName() string {
	if p.take("int") {
		return "int"
	}
	return p.name()
}
