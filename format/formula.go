package format

import "sepal/api"

func (w *writer) disjunction(l []api.Formula) {
	separated(w, " || ", l, w.formula)
}

func (w *writer) formula(f api.Formula) {
	if len(f.Exists) > 0 {
		w.put("exists ")
		w.params(f.Exists)
		w.put(": ")
	}
	separated(w, " & ", f.Pure, w.atom)
	switch {
	case len(f.Pure) == 0 && len(f.Cells) == 0:
		w.put("emp")
	case len(f.Pure) > 0 && len(f.Cells) > 0:
		w.put(" & ")
	}
	separated(w, " & ", f.Cells, w.cell)
}

func (w *writer) atom(a api.Atom) {
	w.comparison(a.Kind, a.A, a.B)
}

func (w *writer) cell(c api.Cell) {
	args := c.Args
	if c.Kind == api.PointsTo {
		w.expr(args[0])
		w.put(" -> ")
		args = args[1:]
	}
	w.put(c.Name)
	parenthesized(w, args, w.exprs)
}
