package steps

import (
	"cmp"
	"slices"

	"sepal/api"
	"sepal/value"
)

// Given returns the variables that the store of a start for a procedure gives values to.
func Given(p api.Program, x api.Proc) []api.Param {
	return slices.Concat(p.Globals, x.Params, x.Logical)
}

// Store returns the store that has these variables, with the values of another store, or 0 if that does not have them.
func Store(l []api.Param, from []api.Binding) []api.Binding {
	var s []api.Binding
	for _, x := range l {
		n, _ := value.Get(from, x.Name)
		s = append(s, api.Binding{Name: x.Name, Value: n})
	}
	slices.SortFunc(s, func(a, b api.Binding) int { return cmp.Compare(a.Name, b.Name) })
	return s
}
