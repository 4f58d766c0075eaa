package format

import (
	"slices"
	"strconv"

	"sepal/api"
)

var operators = [...]rune{api.Add: '+', api.Sub: '-', api.Mul: '*'}

func (w *writer) expr(e api.Expr) {
	switch e.Kind {
	case api.Num:
		w.put(strconv.Itoa(e.N))
	case api.Var:
		w.put(e.Name)
	case api.Null:
		w.put("null")
	case api.Mul:
		w.put(strconv.Itoa(e.N))
		w.operator(operators[e.Kind])
		w.operand(e.L[0], api.Add, api.Sub, api.Mul)
	case api.Add, api.Sub:
		w.expr(e.L[0])
		w.operator(operators[e.Kind])
		w.operand(e.L[1], api.Add, api.Sub)
	}
}

func (w *writer) operator(symbol rune) {
	w.WriteByte(' ')
	w.WriteRune(symbol)
	w.WriteByte(' ')
}

// operand writes an expression, in parentheses if it is of one of these kinds.
func (w *writer) operand(e api.Expr, apart ...int) {
	if slices.Contains(apart, e.Kind) {
		parenthesized(w, e, w.expr)
	} else {
		w.expr(e)
	}
}
