package explore

import (
	"math"

	"sepal/api"
	"sepal/machine"
	"sepal/threads"
)

// The greatest numbers of bounds.
const (
	maxRuns   = 100000
	maxDepth  = 6
	maxValues = 6 // elements of Inputs, and of Choices
)

// check returns the error of an exploration.
func check(p api.Program, proc string, m api.Model, b Bounds) api.Errno {
	if !b.valid() {
		return api.ErrRange
	}
	// The inputs and the choices of valid bounds are valid in every start.
	return machine.Valid(p, machine.Start{Proc: proc, Model: m, Fuel: b.Fuel})
}

func (b Bounds) valid() bool {
	return inRange(1, maxRuns, b.Runs) &&
		inRange(0, threads.MaxSchedule, b.Fuel) &&
		inRange(0, maxDepth, b.Depth) &&
		inRange(0, maxValues, len(b.Inputs), len(b.Choices)) &&
		inRange(-api.MaxInt, api.MaxInt, b.Inputs...) &&
		inRange(0, math.MaxInt, b.Choices...)
}

// inRange reports whether numbers are from least to most.
func inRange(least, most int, numbers ...int) bool {
	for _, n := range numbers {
		if n < least || n > most {
			return false
		}
	}
	return true
}
