package tree

import "sepal/api"

// equalList reports whether two lists have equal elements in the same order.
func equalList[T any](a, b []T, equal func(x, y T) bool) bool {
	if len(a) != len(b) {
		return false
	}
	for i := range a {
		if !equal(a[i], b[i]) {
			return false
		}
	}
	return true
}

// EqualExpr reports whether two expressions are equal.
func EqualExpr(a, b api.Expr) bool {
	return a.Kind == b.Kind && a.N == b.N && a.Name == b.Name && equalList(a.L, b.L, EqualExpr)
}

// EqualFormula reports whether two formulas are equal.
func EqualFormula(a, b api.Formula) bool {
	return equalList(a.Exists, b.Exists, equalParam) &&
		equalList(a.Pure, b.Pure, equalAtom) &&
		equalList(a.Cells, b.Cells, equalCell)
}

// EqualStmts reports whether two lists of statements are equal; places are ignored.
func EqualStmts(a, b []api.Stmt) bool {
	return equalList(a, b, equalStmt)
}

// EqualProgram reports whether two programs are equal; places are ignored.
func EqualProgram(a, b api.Program) bool {
	return equalList(a.Records, b.Records, equalRecord) &&
		equalList(a.Globals, b.Globals, equalParam) &&
		equalList(a.Locks, b.Locks, equalLock) &&
		equalList(a.Defs, b.Defs, equalDef) &&
		equalList(a.Lemmas, b.Lemmas, equalLemma) &&
		equalList(a.Procs, b.Procs, equalProc)
}

func equalCond(a, b api.Cond) bool {
	return a.Kind == b.Kind && EqualExpr(a.A, b.A) && EqualExpr(a.B, b.B) && equalList(a.L, b.L, equalCond)
}

func equalParam(a, b api.Param) bool {
	return a == b
}

func equalAtom(a, b api.Atom) bool {
	return a.Kind == b.Kind && EqualExpr(a.A, b.A) && EqualExpr(a.B, b.B)
}

func equalCell(a, b api.Cell) bool {
	return a.Kind == b.Kind && a.Name == b.Name && equalList(a.Args, b.Args, EqualExpr)
}

func equalCall(a, b api.Call) bool {
	return a.Result == b.Result && a.Proc == b.Proc && equalList(a.Args, b.Args, EqualExpr)
}

func equalStmt(a, b api.Stmt) bool {
	return a.Kind == b.Kind && a.Name == b.Name && a.Field == b.Field && a.From == b.From &&
		EqualExpr(a.E, b.E) && equalCond(a.C, b.C) &&
		equalList(a.Calls, b.Calls, equalCall) &&
		equalList(a.Inv, b.Inv, EqualFormula) &&
		EqualStmts(a.Body, b.Body) && EqualStmts(a.Else, b.Else)
}

func equalRecord(a, b api.Record) bool {
	return a.Name == b.Name && equalList(a.Fields, b.Fields, equalParam)
}

func equalLock(a, b api.Lock) bool {
	return a.Name == b.Name && equalList(a.Inv, b.Inv, EqualFormula)
}

func equalDef(a, b api.Def) bool {
	return a.Name == b.Name && equalList(a.Params, b.Params, equalParam) && equalList(a.Cases, b.Cases, EqualFormula)
}

func equalLemma(a, b api.Lemma) bool {
	return a.Name == b.Name && equalList(a.Params, b.Params, equalParam) && EqualFormula(a.Left, b.Left) && EqualFormula(a.Right, b.Right)
}

// equalProc compares Contract too: procedures that differ in it alone cannot both be valid.
func equalProc(a, b api.Proc) bool {
	return a.Name == b.Name && a.Result == b.Result && a.Contract == b.Contract &&
		equalList(a.Params, b.Params, equalParam) &&
		equalList(a.Logical, b.Logical, equalParam) &&
		equalList(a.Requires, b.Requires, EqualFormula) &&
		equalList(a.Ensures, b.Ensures, EqualFormula) &&
		equalList(a.Locals, b.Locals, equalParam) &&
		EqualStmts(a.Body, b.Body)
}
