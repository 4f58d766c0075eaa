package format

import (
	"strings"

	"sepal/api"
)

// A writer collects a text. Its methods write what they are named after; all trees are valid.
type writer struct {
	strings.Builder
	indent int // levels by which lines are indented
}

func (w *writer) put(l ...string) {
	for _, s := range l {
		w.WriteString(s)
	}
}

func (w *writer) margin() {
	w.put(strings.Repeat("\t", w.indent))
}

// separated writes the items of a list with a text between them.
func separated[T any](w *writer, between string, l []T, item func(T)) {
	for i, x := range l {
		if i > 0 {
			w.put(between)
		}
		item(x)
	}
}

// lines writes each item of a list on a line of its own.
func lines[T any](w *writer, l []T, item func(T)) {
	for _, x := range l {
		w.margin()
		item(x)
		w.put("\n")
	}
}

func parenthesized[T any](w *writer, x T, write func(T)) {
	w.put("(")
	write(x)
	w.put(")")
}

func (w *writer) exprs(l []api.Expr) {
	separated(w, ", ", l, w.expr)
}

func (w *writer) params(l []api.Param) {
	separated(w, ", ", l, w.param)
}

func (w *writer) param(x api.Param) {
	w.put(x.Type, " ", x.Name)
}
