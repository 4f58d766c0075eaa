package flow

import (
	"slices"

	"sepal/api"
	"sepal/clone"
	"sepal/tree"
)

// unrolled returns the list that is unrolled for n turns, with room for more statements behind it.
func unrolled(l []api.Stmt, n, room int) []api.Stmt {
	to := slices.Grow([]api.Stmt(nil), len(l)+room)
	for _, s := range l {
		to = append(to, unrolledStmt(s, n))
	}
	return to
}

func unrolledStmt(s api.Stmt, n int) api.Stmt {
	if s.Kind == api.While {
		return turns(s, n, n)
	}
	to := clone.StmtWithin(s, 0)
	to.Body, to.Else = unrolled(s.Body, n, 0), unrolled(s.Else, n, 0)
	return to
}

// turns returns what a loop is replaced by if left of its n turns are left.
func turns(s api.Stmt, n, left int) api.Stmt {
	c := clone.Cond(s.C)
	if left == 0 {
		return api.Stmt{Kind: api.Assert, Pos: s.Pos, C: api.Cond{Kind: api.Not, L: []api.Cond{c}}}
	}
	return api.Stmt{Kind: api.If, Pos: s.Pos, C: c, Body: append(unrolled(s.Body, n, 1), turns(s, n, left-1))}
}

// fits reports whether a valid list stays valid when it is unrolled for n turns. Such a list can be far too long to be built. But with more turns than one there are the same conditions and the same lengths of lists as with one, only deeper, so the list for one turn shows all that exceeds a limit except for the depth.
func fits(l []api.Stmt, n int) bool {
	return depth(l, n) <= api.MaxDepth && tree.Stmts(unrolled(l, min(n, 1), 0))
}

// depth returns the depth of the list that is unrolled for n turns.
func depth(l []api.Stmt, n int) int {
	most := 0
	for _, s := range l {
		most = max(most, 1+depthInside(s, n))
	}
	return most
}

// depthInside returns the greatest depth of the lists inside of what a statement is replaced by.
func depthInside(s api.Stmt, n int) int {
	switch {
	case s.Kind != api.While:
		return max(depth(s.Body, n), depth(s.Else, n))
	case n == 0:
		return 0
	}
	// Each turn has a list inside of that of the one before, and the last one has at least an assertion in it.
	return n - 1 + max(1, depth(s.Body, n))
}
