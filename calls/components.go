package calls

import (
	"maps"
	"slices"
)

// components lists the components of a graph, each in ascending order of names.
func (g graph) components() [][]string {
	waiting := g.byLeastName()
	listed := names{}
	var l [][]string
	for len(waiting) > 0 {
		// There is always one, because components do not call one another in a circle.
		i := slices.IndexFunc(waiting, func(c names) bool { return g.ready(c, listed) })
		l = append(l, waiting[i].sorted())
		maps.Copy(listed, waiting[i])
		waiting = slices.Delete(waiting, i, i+1)
	}
	return l
}

// byLeastName returns the components in ascending order of their least names.
func (g graph) byLeastName() []names {
	callers := g.reversed()
	var l []names
	for _, name := range slices.Sorted(maps.Keys(g)) {
		if !slices.ContainsFunc(l, func(c names) bool { return c[name] }) {
			l = append(l, common(g.spread([]string{name}), callers.spread([]string{name})))
		}
	}
	return l
}

// common returns the names that are in both sets.
func common(a, b names) names {
	both := names{}
	for name := range a {
		if b[name] {
			both[name] = true
		}
	}
	return both
}

// ready reports whether the procedures of a component call only procedures of it and listed ones.
func (g graph) ready(c, listed names) bool {
	for name := range c {
		for callee := range g[name] {
			if !c[callee] && !listed[callee] {
				return false
			}
		}
	}
	return true
}
