package machine

import (
	"slices"

	"sepal/api"
	"sepal/memory"
	"sepal/steps"
	"sepal/types"
	"sepal/value"
)

// Valid returns OK if a start is valid for a valid program.
func Valid(p api.Program, s Start) api.Errno {
	if !types.Valid(p) || !value.Valid(s.Model.Store) || !memory.Valid(s.Model.Memory) {
		return api.ErrArg
	}
	x, ok := types.Proc(p, s.Proc)
	switch {
	case !ok:
		return api.ErrNone
	case !hasNames(s.Model.Store, steps.Given(p, x)) || !areOf(p, s.Model.Memory):
		return api.ErrForm
	case !inRange(0, MaxInputs, len(s.Inputs), len(s.Choices)) ||
		!inRange(-api.MaxInt, api.MaxInt, s.Inputs...) ||
		slices.ContainsFunc(s.Choices, func(n int) bool { return n < 0 }) ||
		!inRange(0, api.MaxSteps, s.Fuel):
		return api.ErrRange
	}
	return api.OK
}

// Store returns the store of a start.
func Store(p api.Program, proc string, args []int, globals []api.Binding) ([]api.Binding, api.Errno) {
	if !types.Valid(p) || !value.Valid(globals) {
		return nil, api.ErrArg
	}
	x, ok := types.Proc(p, proc)
	switch {
	case !ok:
		return nil, api.ErrNone
	case len(args) != len(x.Params) || !hasNames(globals, p.Globals):
		return nil, api.ErrForm
	case !inRange(-api.MaxInt, api.MaxInt, args...):
		return nil, api.ErrRange
	}
	s := steps.Store(steps.Given(p, x), globals)
	for i, n := range args {
		s = value.Set(s, x.Params[i].Name, n)
	}
	return s, api.OK
}

// hasNames reports whether a valid store has exactly the names of these variables.
func hasNames(s []api.Binding, l []api.Param) bool {
	return slices.EqualFunc(s, steps.Store(l, nil), func(a, b api.Binding) bool { return a.Name == b.Name })
}

// areOf reports whether all blocks of a memory are of records of a program, and have as many fields as these.
func areOf(p api.Program, m []api.Block) bool {
	return !slices.ContainsFunc(m, func(b api.Block) bool {
		r, ok := types.Record(p, b.Record)
		return !ok || len(b.Fields) != len(r.Fields)
	})
}

// inRange reports whether numbers are from least to most.
func inRange(least, most int, numbers ...int) bool {
	return !slices.ContainsFunc(numbers, func(n int) bool { return n < least || n > most })
}
