package format

import (
	"slices"

	"sepal/api"
)

var relations = [...]string{api.Eq: " == ", api.Ne: " != ", api.Le: " <= ", api.Lt: " < "}

func (w *writer) comparison(kind int, a, b api.Expr) {
	w.expr(a)
	w.put(relations[kind])
	w.expr(b)
}

func (w *writer) cond(c api.Cond) {
	switch c.Kind {
	case api.Not:
		w.put("!")
		parenthesized(w, c.L[0], w.cond)
	case api.And:
		w.condOperand(c.L[0], api.Or)
		w.put(" && ")
		w.condOperand(c.L[1], api.And, api.Or)
	case api.Or:
		w.cond(c.L[0])
		w.put(" || ")
		w.condOperand(c.L[1], api.Or)
	default:
		w.comparison(c.Kind, c.A, c.B)
	}
}

// condOperand writes a condition, in parentheses if it is of one of these kinds.
func (w *writer) condOperand(c api.Cond, apart ...int) {
	if slices.Contains(apart, c.Kind) {
		parenthesized(w, c, w.cond)
	} else {
		w.cond(c)
	}
}
