package tree

import (
	"sepal/api"
	"sepal/lex"
)

func (r rules) program(p api.Program) bool {
	return validList(p.Records, 0, api.MaxList, r.record) &&
		validList(p.Globals, 0, api.MaxList, r.param) &&
		validList(p.Locks, 0, api.MaxList, r.lock) &&
		validList(p.Defs, 0, api.MaxList, r.def) &&
		validList(p.Lemmas, 0, api.MaxList, r.lemma) &&
		validList(p.Procs, 0, api.MaxList, r.proc)
}

func (r rules) record(x api.Record) bool {
	return lex.Name(x.Name) && len(x.Fields) > 0 && r.params(x.Fields)
}

func (r rules) lock(x api.Lock) bool {
	return lex.Name(x.Name) && r.disjunction(x.Inv)
}

func (r rules) def(d api.Def) bool {
	return lex.Name(d.Name) && len(d.Params) > 0 && r.params(d.Params) && r.disjunction(d.Cases)
}

func (r rules) lemma(m api.Lemma) bool {
	return lex.Name(m.Name) && r.params(m.Params) && r.formula(m.Left) && r.formula(m.Right)
}

func (r rules) proc(p api.Proc) bool {
	return lex.Name(p.Name) && place(p.Pos) && r.params(p.Params) &&
		(p.Result == api.Param{} || r.param(p.Result)) &&
		r.contract(p) &&
		validList(p.Locals, 0, api.MaxList, r.param) &&
		r.stmts(p.Body)
}

func (r rules) contract(p api.Proc) bool {
	if !p.Contract {
		return len(p.Logical) == 0 && len(p.Requires) == 0 && len(p.Ensures) == 0
	}
	return r.params(p.Logical) && r.disjunction(p.Requires) && r.disjunction(p.Ensures)
}
