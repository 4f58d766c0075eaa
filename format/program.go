package format

import "sepal/api"

func (w *writer) program(p api.Program) {
	lines(w, p.Records, w.record)
	lines(w, p.Globals, w.global)
	lines(w, p.Locks, w.lock)
	lines(w, p.Defs, w.def)
	lines(w, p.Lemmas, w.lemma)
	lines(w, p.Procs, w.proc)
}

func (w *writer) record(r api.Record) {
	w.put("record ", r.Name, " { ")
	separated(w, " ", r.Fields, w.declaration)
	w.put(" }")
}

func (w *writer) global(x api.Param) {
	w.put("global ")
	w.declaration(x)
}

func (w *writer) lock(x api.Lock) {
	w.put("lock ", x.Name, " invariant ")
	w.disjunction(x.Inv)
	w.put(";")
}

func (w *writer) def(d api.Def) {
	w.put("predicate ", d.Name)
	parenthesized(w, d.Params, w.params)
	w.put(" = ")
	w.disjunction(d.Cases)
	w.put(";")
}

func (w *writer) lemma(m api.Lemma) {
	w.put("lemma ", m.Name)
	parenthesized(w, m.Params, w.params)
	w.put(": ")
	w.formula(m.Left)
	w.put(" ==> ")
	w.formula(m.Right)
	w.put(";")
}

func (w *writer) proc(x api.Proc) {
	w.put("procedure ", x.Name)
	parenthesized(w, x.Params, w.params)
	if x.Result.Name != "" {
		w.put(" returns ")
		parenthesized(w, x.Result, w.param)
	}
	if x.Contract {
		w.contract(x)
	}
	w.block(x.Locals, x.Body)
}

func (w *writer) contract(x api.Proc) {
	if len(x.Logical) > 0 {
		w.put(" logical ")
		parenthesized(w, x.Logical, w.params)
	}
	w.put(" requires ")
	w.disjunction(x.Requires)
	w.put(" ensures ")
	w.disjunction(x.Ensures)
}
