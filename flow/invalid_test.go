package flow_test

import (
	"testing"

	"sepal/api"
	"sepal/flow"
	"sepal/tree"
)

// wrongStmts are statements that are not valid, some of them with valid parts inside.
func wrongStmts() []api.Stmt {
	c := equation("a", "b")
	return []api.Stmt{
		{},
		{Kind: -1},
		{Kind: api.Par + 1, Name: "x", E: num(1)},
		{Kind: api.Assign, Name: "x"},
		{Kind: api.Assign, Name: "", E: num(1)},
		{Kind: api.Assign, Name: "2x", E: num(1)},
		{Kind: api.Assign, Name: "x", From: "y", E: num(1)},
		{Kind: api.Assign, Name: "x", E: num(api.MaxCoef + 1)},
		{Kind: api.Assign, Name: "x", E: num(1), Pos: api.Pos{Line: -1}},
		{Kind: api.Assign, Name: "x", E: num(1), Pos: api.Pos{Column: api.MaxText + 2}},
		{Kind: api.Free, Name: "x", Calls: []api.Call{{Result: "y", Proc: "p"}}},
		{Kind: api.Invoke},
		{Kind: api.Par, Calls: []api.Call{{Result: "y", Proc: "p"}}},
		{Kind: api.Assert, C: deepCond(api.MaxDepth + 1)},
		{Kind: api.While, C: c, Else: long(1)},
		{Kind: api.While, C: c, Inv: []api.Formula{{Cells: []api.Cell{{}}}}},
		{Kind: api.While, C: c, Body: long(api.MaxList + 1)},
		{Kind: api.If, Body: long(1)},
		{Kind: api.With, Name: "$L", Body: long(1)},
	}
}

// wrongLists are lists that are not valid: with one of the statements alone, behind valid ones and before them, and inside of others; and such that are too long, too deep, or without an end.
func wrongLists(t *testing.T) [][]api.Stmt {
	l := [][]api.Stmt{long(api.MaxList + 1)}
	for _, s := range wrongStmts() {
		among := append(body(t, rich), s, assign("x"))
		l = append(l, []api.Stmt{s}, among, append([]api.Stmt{s}, body(t, rich)...))
		for _, nest := range nests() {
			l = append(l, append(body(t, rich), nest([]api.Stmt{assign("x"), s})...))
			l = append(l, append(body(t, rich), nested([]api.Stmt{s}, api.MaxDepth-1, nest)...))
		}
	}
	for _, nest := range nests() {
		l = append(l, nest(long(api.MaxList+1)), nested(long(1), api.MaxDepth, nest), nested(long(1), 1000, nest))
		endless := nest(long(1))
		endless[0].Body, endless[0].Else = endless, endless
		l = append(l, endless)
	}
	return l
}

func zeroStmt(s api.Stmt) bool {
	return tree.EqualStmts([]api.Stmt{s}, []api.Stmt{{}}) && s.Pos == api.Pos{}
}

func TestListsThatAreNotValid(t *testing.T) {
	right := body(t, rich)
	for i, l := range wrongLists(t) {
		if tree.Stmts(l) {
			t.Fatal(i, "is valid")
		}
		if flow.Modified(l) != nil || flow.Used(l) != nil || flow.Locks(l) != nil || flow.Loops(l) != 0 {
			t.Error(i, "names, or loops")
		}
		for _, n := range []int{-1, 0, 1, 2, 3, 20, 21, 100, 101} {
			if flow.Paths(l, n) != 0 || flow.Inlined(l, n) != nil {
				t.Error(i, n, "paths, or unrolled")
			}
			if s, ok := flow.At(l, n); ok || !zeroStmt(s) {
				t.Error(i, n, s)
			}
			for _, by := range [][]api.Stmt{nil, long(1), {{}}} {
				if x, e := flow.Replace(l, n, by); x != nil || e != api.ErrArg {
					t.Error(i, n, e)
				}
			}
			if x, e := flow.Replace(right, n, l); x != nil || e != api.ErrArg {
				t.Error(i, n, e)
			}
		}
	}
}

// TestListsAtTheLimits demands that lists are not rejected that are as long, or as deep, as they can be.
func TestListsAtTheLimits(t *testing.T) {
	for i, nest := range nests() {
		for _, l := range [][]api.Stmt{long(api.MaxList), nest(long(api.MaxList)), nested(long(1), api.MaxDepth-1, nest)} {
			n := len(places(l))
			s, ok := flow.At(l, n-1)
			x, e := flow.Replace(l, n-1, []api.Stmt{s})
			if len(flow.Modified(l)) != 1 || flow.Paths(l, 0) < 1 || !ok || s.Name != "x" || e != api.OK || !same(x, l) || flow.Inlined(l, 0) == nil {
				t.Error(i, n)
			}
		}
	}
}
