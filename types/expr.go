package types

import "sepal/api"

// variables are those that an expression may use.
type variables struct {
	scope  []api.Param
	barred []api.Param // those of the scope that it must not use
}

// kind returns the type of a variable.
func (v variables) kind(name string) string {
	demand(!has(v.barred, name), api.ErrState, name)
	return find(v.scope, name, paramName).Type
}

func (v variables) expr(e api.Expr) string {
	switch e.Kind {
	case api.Var:
		return v.kind(e.Name)
	case api.Null:
		return Null
	}
	for _, x := range e.L {
		demand(v.expr(x) == integer, api.ErrType, "")
	}
	return integer
}

func (v variables) comparison(kind int, a, b api.Expr) {
	x := v.expr(a)
	y := v.expr(b)
	right := x == integer && y == integer
	if kind == api.Eq || kind == api.Ne {
		right = Fits(x, y) || Fits(y, x)
	}
	demand(right, api.ErrType, "")
}

func (v variables) cond(c api.Cond) {
	switch c.Kind {
	case api.Not, api.And, api.Or:
		for _, x := range c.L {
			v.cond(x)
		}
	default:
		v.comparison(c.Kind, c.A, c.B)
	}
}

// args checks the arguments of the record, the definition, or the procedure with this name.
func (v variables) args(l []api.Expr, params []api.Param, name string) {
	demand(len(l) == len(params), api.ErrRange, name)
	for i, e := range l {
		demand(Fits(v.expr(e), params[i].Type), api.ErrType, name)
	}
}
