package calls

import (
	"maps"
	"slices"

	"sepal/api"
	"sepal/tree"
	"sepal/types"
)

// names is a set of names of procedures.
type names map[string]bool

// sorted returns the names in ascending order.
func (s names) sorted() []string {
	return slices.Sorted(maps.Keys(s))
}

// graph has a set for each procedure, in which those are that it calls.
type graph map[string]names

// graphOf returns the graph of a program. That of a program that is not valid has no procedures, so that nothing is found in it.
func graphOf(p api.Program) graph {
	if !types.Valid(p) {
		return nil
	}
	g := graph{}
	for _, x := range p.Procs {
		g[x.Name] = called(x.Body)
	}
	return g
}

// called returns the procedures that the statements of a list call.
func called(l []api.Stmt) names {
	found := names{}
	for _, s := range tree.Walk(l) {
		for _, c := range s.Calls {
			found[c.Proc] = true
		}
	}
	return found
}

// reversed returns the graph in which each procedure has those that call it.
func (g graph) reversed() graph {
	callers := graph{}
	for name := range g {
		callers[name] = names{}
	}
	for name, callees := range g {
		for callee := range callees {
			callers[callee][name] = true
		}
	}
	return callers
}

// spread returns those of the procedures that exist, and all that they reach.
func (g graph) spread(from []string) names {
	found := names{}
	for _, name := range from {
		g.visit(name, found)
	}
	return found
}

// visit adds a procedure, if it exists, and all that it reaches.
func (g graph) visit(name string, found names) {
	callees, exists := g[name]
	if !exists || found[name] {
		return
	}
	found[name] = true
	for callee := range callees {
		g.visit(callee, found)
	}
}
