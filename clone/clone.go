// Package clone copies trees and models: a copy shares no memory with its original, just as the results of the layers must share none with their arguments.
package clone

import (
	"math"
	"slices"

	"sepal/api"
)

// list copies a list with the copies of its elements. Its copy is nil only if the list is.
func list[T any](l []T, copyOf func(T) T) []T {
	if l == nil {
		return nil
	}
	to := make([]T, len(l))
	for i, x := range l {
		to[i] = copyOf(x)
	}
	return to
}

// Expr copies an expression.
func Expr(e api.Expr) api.Expr {
	e.L = list(e.L, Expr)
	return e
}

// Cond copies a condition.
func Cond(c api.Cond) api.Cond {
	c.A, c.B = Expr(c.A), Expr(c.B)
	c.L = list(c.L, Cond)
	return c
}

func formula(f api.Formula) api.Formula {
	f.Exists = slices.Clone(f.Exists)
	f.Pure = Atoms(f.Pure)
	f.Cells = list(f.Cells, cell)
	return f
}

// Atom copies an atom.
func Atom(a api.Atom) api.Atom {
	a.A, a.B = Expr(a.A), Expr(a.B)
	return a
}

// Atoms copies a list of atoms.
func Atoms(l []api.Atom) []api.Atom {
	return list(l, Atom)
}

func cell(c api.Cell) api.Cell {
	c.Args = list(c.Args, Expr)
	return c
}

func call(c api.Call) api.Call {
	c.Args = list(c.Args, Expr)
	return c
}

// Stmts copies a list of statements.
func Stmts(l []api.Stmt) []api.Stmt {
	return stmtsWithin(l, math.MaxInt)
}

// StmtWithin copies a statement with the lists in it up to this many levels, and shares the deeper ones.
func StmtWithin(s api.Stmt, levels int) api.Stmt {
	s.E = Expr(s.E)
	s.C = Cond(s.C)
	s.Calls = list(s.Calls, call)
	s.Inv = list(s.Inv, formula)
	s.Body = stmtsWithin(s.Body, levels)
	s.Else = stmtsWithin(s.Else, levels)
	return s
}

func stmtsWithin(l []api.Stmt, levels int) []api.Stmt {
	if levels == 0 {
		return l
	}
	return list(l, func(s api.Stmt) api.Stmt { return StmtWithin(s, levels-1) })
}

// Record copies a record.
func Record(r api.Record) api.Record {
	r.Fields = slices.Clone(r.Fields)
	return r
}

// Proc copies a procedure.
func Proc(x api.Proc) api.Proc {
	x.Params = slices.Clone(x.Params)
	x.Logical = slices.Clone(x.Logical)
	x.Requires = list(x.Requires, formula)
	x.Ensures = list(x.Ensures, formula)
	x.Locals = slices.Clone(x.Locals)
	x.Body = Stmts(x.Body)
	return x
}

// Model copies a model.
func Model(m api.Model) api.Model {
	m.Store = slices.Clone(m.Store)
	m.Memory = list(m.Memory, block)
	return m
}

func block(b api.Block) api.Block {
	b.Fields = slices.Clone(b.Fields)
	return b
}
