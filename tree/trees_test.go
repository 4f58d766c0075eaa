package tree_test

import (
	"reflect"
	"slices"
	"strings"
	"testing"

	"sepal/api"
	"sepal/tree"
)

func num(n int) api.Expr { return api.Expr{Kind: api.Num, N: n} }

func variable(s string) api.Expr { return api.Expr{Kind: api.Var, Name: s} }

func null() api.Expr { return api.Expr{Kind: api.Null} }

func add(a, b api.Expr) api.Expr { return api.Expr{Kind: api.Add, L: []api.Expr{a, b}} }

func sub(a, b api.Expr) api.Expr { return api.Expr{Kind: api.Sub, L: []api.Expr{a, b}} }

func mul(n int, e api.Expr) api.Expr { return api.Expr{Kind: api.Mul, N: n, L: []api.Expr{e}} }

func atom(kind int, a, b api.Expr) api.Atom { return api.Atom{Kind: kind, A: a, B: b} }

func comparison(kind int, a, b api.Expr) api.Cond { return api.Cond{Kind: kind, A: a, B: b} }

func not(c api.Cond) api.Cond { return api.Cond{Kind: api.Not, L: []api.Cond{c}} }

func both(kind int, a, b api.Cond) api.Cond { return api.Cond{Kind: kind, L: []api.Cond{a, b}} }

func param(kind, name string) api.Param { return api.Param{Type: kind, Name: name} }

func cell(kind int, name string, args ...api.Expr) api.Cell {
	return api.Cell{Kind: kind, Name: name, Args: args}
}

func call(result, proc string, args ...api.Expr) api.Call {
	return api.Call{Result: result, Proc: proc, Args: args}
}

// richFormula has every kind of atoms, cells, and expressions.
func richFormula() api.Formula {
	return api.Formula{
		Exists: []api.Param{param("Node", "m"), param("int", "k")},
		Pure: []api.Atom{
			atom(api.Eq, variable("x"), null()),
			atom(api.Ne, variable("m"), variable("x")),
			atom(api.Le, mul(-3, variable("k")), num(7)),
			atom(api.Lt, add(variable("k"), num(1)), sub(num(2), variable("n"))),
		},
		Cells: []api.Cell{
			cell(api.PointsTo, "Node", variable("x"), variable("m"), num(5)),
			cell(api.Pred, "ls", variable("m"), null()),
		},
	}
}

func richCond() api.Cond {
	ne := comparison(api.Ne, variable("x"), null())
	le := comparison(api.Le, num(-1), variable("n"))
	return both(api.Or, both(api.And, ne, not(comparison(api.Eq, variable("y"), variable("x")))), both(api.And, le, comparison(api.Lt, mul(2, variable("n")), num(9))))
}

// richStmts has a statement of each kind, with all of the fields of its kind, in the order of the kinds.
func richStmts() []api.Stmt {
	at := func(n int) api.Pos { return api.Pos{Line: n, Column: 2 * n} }
	inner := []api.Stmt{
		{Kind: api.Free, Pos: at(30), Name: "x"},
		{Kind: api.With, Pos: at(31), Name: "M", Body: []api.Stmt{{Kind: api.Input, Pos: at(32), Name: "n"}}},
		{Kind: api.If, Pos: at(33), C: comparison(api.Lt, num(3), variable("n"))},
	}
	other := []api.Stmt{{Kind: api.Assign, Pos: at(34), Name: "y", E: null()}, {Kind: api.While, Pos: at(35), C: richCond()}}
	return []api.Stmt{
		{Kind: api.Assign, Pos: at(1), Name: "n", E: add(variable("n"), mul(2, num(1)))},
		{Kind: api.Load, Pos: at(2), Name: "y", From: "x", Field: "next"},
		{Kind: api.Save, Pos: at(3), Name: "x", Field: "next", E: variable("y")},
		{Kind: api.New, Pos: at(4), Name: "x", From: "Node"},
		{Kind: api.Free, Pos: at(5), Name: "x"},
		{Kind: api.Input, Pos: at(6), Name: "n"},
		{Kind: api.Invoke, Pos: at(7), Calls: []api.Call{call("n", "p", variable("x"), num(1))}},
		{Kind: api.If, Pos: at(8), C: richCond(), Body: inner, Else: other},
		{Kind: api.While, Pos: at(9), C: richCond(), Inv: []api.Formula{richFormula(), {}}, Body: slices.Clone(inner)},
		{Kind: api.Assert, Pos: at(10), C: richCond()},
		{Kind: api.With, Pos: at(11), Name: "M", Body: slices.Clone(other)},
		{Kind: api.Par, Pos: at(12), Calls: []api.Call{call("", "p"), call("n", "q", null())}},
	}
}

func richProgram() api.Program {
	node, n := param("Node", "x"), param("int", "n")
	return deepCopy(api.Program{
		Records: []api.Record{{Name: "Node", Fields: []api.Param{param("Node", "next"), param("int", "val")}}, {Name: "Box", Fields: []api.Param{n}}},
		Globals: []api.Param{param("Node", "head"), param("int", "size")},
		Locks:   []api.Lock{{Name: "M", Inv: []api.Formula{richFormula(), {}}}, {Name: "K", Inv: []api.Formula{{}}}},
		Defs:    []api.Def{{Name: "ls", Params: []api.Param{node, param("Node", "y")}, Cases: []api.Formula{{}, richFormula()}}, {Name: "one", Params: []api.Param{node}, Cases: []api.Formula{{}}}},
		Lemmas:  []api.Lemma{{Name: "join", Params: []api.Param{node, n}, Left: richFormula(), Right: richFormula()}, {Name: "none"}},
		Procs: []api.Proc{
			{Name: "p", Pos: api.Pos{Line: 40, Column: 1}, Params: []api.Param{node, n}, Logical: []api.Param{param("int", "a"), param("int", "b")}, Result: param("int", "r"), Contract: true,
				Requires: []api.Formula{richFormula(), {}}, Ensures: []api.Formula{{}, richFormula()}, Locals: []api.Param{param("Node", "y"), n}, Body: richStmts()},
			{Name: "q", Pos: api.Pos{Line: 50, Column: 3}, Body: richStmts()[:2]},
		},
	})
}

// deepCopy returns a value that shares no memory with x.
func deepCopy[T any](x T) T {
	return copyValue(reflect.ValueOf(&x).Elem()).Interface().(T)
}

func copyValue(v reflect.Value) reflect.Value {
	to := reflect.New(v.Type()).Elem()
	switch v.Kind() {
	case reflect.Struct:
		for i := range v.NumField() {
			to.Field(i).Set(copyValue(v.Field(i)))
		}
	case reflect.Slice:
		if !v.IsNil() {
			to.Set(reflect.MakeSlice(v.Type(), v.Len(), v.Len()))
		}
		for i := range v.Len() {
			to.Index(i).Set(copyValue(v.Index(i)))
		}
	default:
		to.Set(v)
	}
	return to
}

// parts calls visit for all fields and elements of what x points to, with the names of the types and fields above them; visit may change them, if it changes them back.
func parts(x any, visit func(path string, v reflect.Value)) {
	v := reflect.ValueOf(x).Elem()
	visitParts(v.Type().Name(), v, visit)
}

func visitParts(path string, v reflect.Value, visit func(string, reflect.Value)) {
	switch v.Kind() {
	case reflect.Struct:
		for i := range v.NumField() {
			visitParts(path+"/"+v.Type().Name()+"."+v.Type().Field(i).Name, v.Field(i), visit)
		}
	case reflect.Slice:
		for i := range v.Len() {
			visitParts(path, v.Index(i), visit)
		}
	}
	visit(path, v)
}

// with sets v to x for the time of a call.
func with(v reflect.Value, x any, call func()) {
	was := reflect.ValueOf(v.Interface())
	v.Set(reflect.ValueOf(x).Convert(v.Type()))
	call()
	v.Set(was)
}

func isPlace(path string) bool { return strings.Contains(path, ".Pos") }

func TestPartsAreRestored(t *testing.T) {
	p := richProgram()
	texts := 0
	parts(&p, func(path string, v reflect.Value) {
		if v.Kind() == reflect.String {
			texts++
			with(v, "changed", func() {
				if reflect.DeepEqual(p, richProgram()) {
					t.Error(path)
				}
			})
		}
	})
	if texts < 400 || !reflect.DeepEqual(p, richProgram()) || !tree.Program(p) {
		t.Error(texts)
	}
}
