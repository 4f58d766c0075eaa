package format_test

import (
	"fmt"
	"testing"

	"sepal/api"
)

func num(n int) api.Expr             { return api.Expr{Kind: api.Num, N: n} }
func name(s string) api.Expr         { return api.Expr{Kind: api.Var, Name: s} }
func null() api.Expr                 { return api.Expr{Kind: api.Null} }
func add(a, b api.Expr) api.Expr     { return api.Expr{Kind: api.Add, L: []api.Expr{a, b}} }
func sub(a, b api.Expr) api.Expr     { return api.Expr{Kind: api.Sub, L: []api.Expr{a, b}} }
func mul(n int, a api.Expr) api.Expr { return api.Expr{Kind: api.Mul, N: n, L: []api.Expr{a}} }

func compare(kind int, a, b api.Expr) api.Cond {
	return api.Cond{Kind: kind, A: a, B: b}
}

func join(kind int, l ...api.Cond) api.Cond {
	return api.Cond{Kind: kind, L: l}
}

func atom(kind int, a, b api.Expr) api.Atom {
	return api.Atom{Kind: kind, A: a, B: b}
}

func pred(name string, args ...api.Expr) api.Cell {
	return api.Cell{Kind: api.Pred, Name: name, Args: args}
}

func points(name string, args ...api.Expr) api.Cell {
	return api.Cell{Kind: api.PointsTo, Name: name, Args: args}
}

func param(kind, name string) api.Param {
	return api.Param{Type: kind, Name: name}
}

func params(l ...api.Param) []api.Param {
	return l
}

func call(result, proc string, args ...api.Expr) api.Call {
	return api.Call{Result: result, Proc: proc, Args: args}
}

// checkText demands this text of a tree, and that the tree stays as it is.
func checkText[T any](t *testing.T, write func(T) (string, api.Errno), x T, want string) {
	t.Helper()
	before := fmt.Sprintf("%#v", x)
	s, e := write(x)
	if s != want || e != api.OK {
		t.Errorf("%v:\n%q, %d, want\n%q", x, s, e, want)
	}
	if fmt.Sprintf("%#v", x) != before {
		t.Error("changed:", x)
	}
}

func checkError[T any](t *testing.T, write func(T) (string, api.Errno), x T, want api.Errno) {
	t.Helper()
	if s, e := write(x); s != "" || e != want {
		t.Errorf("%.300v: %q, %d, want %d", x, s, e, want)
	}
}

// deepExpr returns an expression of this depth.
func deepExpr(depth int) api.Expr {
	e := name("x")
	for range depth - 1 {
		e = sub(e, num(1))
	}
	return e
}

func deepCond(depth int) api.Cond {
	c := compare(api.Lt, name("x"), num(1))
	for range depth - 1 {
		c = join(api.Not, c)
	}
	return c
}

// wrongExprs are not valid, each for another reason.
func wrongExprs() []api.Expr {
	x := name("x")
	return []api.Expr{
		{}, {Kind: -1}, {Kind: 7}, {Kind: api.Num, Name: "x"}, {Kind: api.Num, L: []api.Expr{x}}, num(api.MaxCoef + 1), num(-api.MaxCoef - 1),
		name(""), name("null"), name("2x"), name("a b"), name("$"), name("abcdefghijklmnopqrstu"), {Kind: api.Var, Name: "x", N: 1}, {Kind: api.Null, Name: "null"}, {Kind: api.Null, L: []api.Expr{x}},
		{Kind: api.Add}, {Kind: api.Add, L: []api.Expr{x}}, {Kind: api.Sub, L: []api.Expr{x, x, x}}, {Kind: api.Add, L: []api.Expr{x, {}}}, {Kind: api.Sub, L: []api.Expr{{}, x}}, {Kind: api.Sub, N: 1, L: []api.Expr{x, x}},
		{Kind: api.Mul, N: 1}, {Kind: api.Mul, N: 1, L: []api.Expr{x, x}}, mul(api.MaxCoef+1, x), mul(2, api.Expr{}), deepExpr(api.MaxDepth + 1),
	}
}
