package pure

import (
	"cmp"
	"slices"

	"sepal/api"
)

func compareExprs(a, b api.Expr) int {
	return cmp.Or(
		cmp.Compare(a.Kind, b.Kind),
		cmp.Compare(a.N, b.N),
		cmp.Compare(a.Name, b.Name),
		cmp.Compare(len(a.L), len(b.L)),
		slices.CompareFunc(a.L, b.L, compareExprs),
	)
}

func compareAtoms(a, b api.Atom) int {
	return cmp.Or(
		cmp.Compare(a.Kind, b.Kind),
		compareExprs(a.A, b.A),
		compareExprs(a.B, b.B),
	)
}
