package tree

import (
	"strings"

	"sepal/api"
	"sepal/lex"
)

// rules are what the trees of proofs and those of programs differ in.
type rules struct {
	variable func(string) bool // whether this is a name of a variable
	number   int               // greatest absolute value of a number
	exists   int               // most existential variables of a formula
}

func proofRules() rules {
	return rules{variable: variableName, number: api.MaxCoef, exists: api.MaxList}
}

func programRules() rules {
	return rules{variable: lex.Name, number: api.MaxInt, exists: api.MaxParams}
}

func variableName(s string) bool {
	rest, fresh := strings.CutPrefix(s, "$")
	if !fresh {
		return lex.Name(s)
	}
	return rest != "" && len(s) <= api.MaxName && strings.Trim(rest, nameBytes) == ""
}

// nameBytes are the letters, the digits, and the underscore.
const nameBytes = "abcdefghijklmnopqrstuvwxyzABCDEFGHIJKLMNOPQRSTUVWXYZ0123456789_"

func typeName(s string) bool {
	return s == "int" || lex.Name(s)
}

func place(p api.Pos) bool {
	return 0 <= p.Line && p.Line <= api.MaxText+1 && 0 <= p.Column && p.Column <= api.MaxText+1
}

// validList reports whether a list has from least to most elements, all of them valid.
func validList[T any](l []T, least, most int, valid func(T) bool) bool {
	if len(l) < least || len(l) > most {
		return false
	}
	for _, x := range l {
		if !valid(x) {
			return false
		}
	}
	return true
}

func (r rules) inRange(n int) bool {
	return -r.number <= n && n <= r.number
}

func (r rules) expr(e api.Expr) bool {
	return r.exprWithin(api.MaxDepth)(e)
}

// exprWithin returns whether an expression is valid and has at most this depth. The bound is handed down, so that the check of a tree that is far too deep ends there.
func (r rules) exprWithin(depth int) func(api.Expr) bool {
	return func(e api.Expr) bool {
		if depth == 0 {
			return false
		}
		operands := func(n int) bool {
			return validList(e.L, n, n, r.exprWithin(depth-1))
		}
		switch e.Kind {
		case api.Num:
			return r.inRange(e.N) && e.Name == "" && operands(0)
		case api.Var:
			return e.N == 0 && r.variable(e.Name) && operands(0)
		case api.Null:
			return e.N == 0 && e.Name == "" && operands(0)
		case api.Add, api.Sub:
			return e.N == 0 && e.Name == "" && operands(2)
		case api.Mul:
			return r.inRange(e.N) && e.Name == "" && operands(1)
		}
		return false
	}
}

func noExpr(e api.Expr) bool {
	return EqualExpr(e, api.Expr{})
}

func comparison(kind int) bool {
	return api.Eq <= kind && kind <= api.Lt
}

func (r rules) cond(c api.Cond) bool {
	return r.condWithin(api.MaxDepth)(c)
}

func (r rules) condWithin(depth int) func(api.Cond) bool {
	return func(c api.Cond) bool {
		if depth == 0 {
			return false
		}
		if comparison(c.Kind) {
			return r.expr(c.A) && r.expr(c.B) && len(c.L) == 0
		}
		operands := func(n int) bool {
			return noExpr(c.A) && noExpr(c.B) && validList(c.L, n, n, r.condWithin(depth-1))
		}
		switch c.Kind {
		case api.Not:
			return operands(1)
		case api.And, api.Or:
			return operands(2)
		}
		return false
	}
}

func noCond(c api.Cond) bool {
	return equalCond(c, api.Cond{})
}

func (r rules) atom(a api.Atom) bool {
	return comparison(a.Kind) && r.expr(a.A) && r.expr(a.B)
}

func (r rules) param(p api.Param) bool {
	return typeName(p.Type) && r.variable(p.Name)
}

func (r rules) params(l []api.Param) bool {
	return validList(l, 0, api.MaxParams, r.param)
}

func (r rules) cell(c api.Cell) bool {
	if !lex.Name(c.Name) {
		return false
	}
	switch c.Kind {
	case api.PointsTo:
		return validList(c.Args, 2, api.MaxParams+1, r.expr)
	case api.Pred:
		return validList(c.Args, 1, api.MaxParams, r.expr)
	}
	return false
}

func (r rules) formula(f api.Formula) bool {
	return validList(f.Exists, 0, r.exists, r.param) && differentNames(f.Exists) &&
		validList(f.Pure, 0, api.MaxList, r.atom) &&
		validList(f.Cells, 0, api.MaxList, r.cell)
}

func differentNames(l []api.Param) bool {
	names := map[string]bool{}
	for _, x := range l {
		names[x.Name] = true
	}
	return len(names) == len(l)
}

// disjunction reports whether a list has at least one formula, and all of them are valid.
func (r rules) disjunction(l []api.Formula) bool {
	return validList(l, 1, api.MaxList, r.formula)
}
