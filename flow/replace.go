package flow

import (
	"slices"

	"sepal/api"
	"sepal/clone"
	"sepal/tree"
)

// Replace returns the list in which the statement with the number n is replaced by the statements s.
func Replace(l []api.Stmt, n int, s []api.Stmt) ([]api.Stmt, api.Errno) {
	if !tree.Stmts(l) || !tree.Stmts(s) {
		return nil, api.ErrArg
	}
	r := replacement{left: n, by: clone.Stmts(s)}
	to := r.in(clone.Stmts(l))
	switch {
	case !r.done:
		return nil, api.ErrRange
	case !tree.Stmts(to):
		return nil, api.ErrFull
	}
	return to, api.OK
}

// replacement replaces one statement of the lists that it goes through.
type replacement struct {
	left int // how many statements are left before the one to be replaced
	by   []api.Stmt
	done bool
}

// in returns the list in which the statement is replaced, or the list itself if it is not there. The list may be changed.
func (r *replacement) in(l []api.Stmt) []api.Stmt {
	for i := range l {
		if r.left == 0 {
			r.done = true
			return slices.Replace(l, i, i+1, r.by...)
		}
		r.left--
		l[i].Body = r.in(l[i].Body)
		if !r.done {
			l[i].Else = r.in(l[i].Else)
		}
		if r.done {
			break
		}
	}
	return l
}
