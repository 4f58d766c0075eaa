package tree_test

import (
	"reflect"
	"slices"
	"testing"

	"sepal/api"
	"sepal/tree"
)

// filled returns a tree of which every field is filled, whatever its kind is, with lists of two elements up to a depth; no two of its numbers and texts are the same.
func filled[T any](depth int) T {
	var x T
	n := 0
	fill(reflect.ValueOf(&x).Elem(), depth, &n)
	return x
}

func fill(v reflect.Value, depth int, n *int) {
	*n++
	switch v.Kind() {
	case reflect.Struct:
		for i := range v.NumField() {
			fill(v.Field(i), depth, n)
		}
	case reflect.Slice:
		if depth > 0 {
			v.Set(reflect.MakeSlice(v.Type(), 2, 2))
			for i := range v.Len() {
				fill(v.Index(i), depth-1, n)
			}
		}
	case reflect.Int:
		v.SetInt(int64(*n))
	case reflect.String:
		v.SetString(string(rune(0x10000 + *n)))
	case reflect.Bool:
		v.SetBool(true)
	}
}

// checkEqual compares trees with copies in which one thing is changed: only if it is a place, they are equal.
func checkEqual[T any](t *testing.T, x T, equal func(a, b T) bool) {
	t.Helper()
	y := deepCopy(x)
	n := 0
	check := func(path string, want bool) {
		n++
		if equal(x, y) != want || equal(y, x) != want {
			t.Errorf("%s: not %v", path, want)
		}
	}
	check("copy", true)
	parts(&y, func(path string, v reflect.Value) {
		switch v.Kind() {
		case reflect.Int:
			with(v, v.Int()+1, func() { check(path, isPlace(path)) })
		case reflect.String:
			with(v, v.String()+"x", func() { check(path, false) })
		case reflect.Bool:
			with(v, !v.Bool(), func() { check(path, false) })
		case reflect.Slice:
			for _, other := range otherLists(v) {
				want := v.Len() == 0 && other.Len() == 0
				with(v, other.Interface(), func() { check(path, want) })
			}
		}
	})
	if n < 2 || !equal(x, y) {
		t.Error(n)
	}
}

// otherLists returns a list without its last, and without its first element, with one more, and in another order if that matters; and, for none at all, both kinds of it.
func otherLists(v reflect.Value) []reflect.Value {
	n := v.Len()
	longer := reflect.Append(v.Slice3(0, n, n), reflect.Zero(v.Type().Elem()))
	if n == 0 {
		return []reflect.Value{longer, reflect.Zero(v.Type()), reflect.MakeSlice(v.Type(), 0, 1)}
	}
	l := []reflect.Value{longer, v.Slice(0, n-1), v.Slice(1, n), reflect.Zero(v.Type())}
	if n > 1 && !reflect.DeepEqual(v.Index(0).Interface(), v.Index(1).Interface()) {
		swapped := copyValue(v)
		reflect.Swapper(swapped.Interface())(0, 1)
		l = append(l, swapped)
	}
	return l
}

func TestEqualValidTrees(t *testing.T) {
	checkEqual(t, sub(mul(-2, variable("x")), add(num(5), null())), tree.EqualExpr)
	checkEqual(t, richFormula(), tree.EqualFormula)
	checkEqual(t, richStmts(), tree.EqualStmts)
	checkEqual(t, richProgram(), tree.EqualProgram)
}

func TestEqualOtherTrees(t *testing.T) {
	checkEqual(t, filled[api.Expr](3), tree.EqualExpr)
	checkEqual(t, filled[api.Formula](3), tree.EqualFormula)
	checkEqual(t, filled[[]api.Stmt](3), tree.EqualStmts)
	checkEqual(t, filled[api.Program](4), tree.EqualProgram)
	checkEqual(t, api.Expr{}, tree.EqualExpr)
	checkEqual(t, api.Formula{}, tree.EqualFormula)
	checkEqual(t, nil, tree.EqualStmts)
	checkEqual(t, []api.Stmt{{}}, tree.EqualStmts)
	checkEqual(t, api.Program{}, tree.EqualProgram)
}

func TestEqualIgnoresAllPlaces(t *testing.T) {
	p := richProgram()
	q := deepCopy(p)
	place := reflect.TypeOf(api.Pos{})
	n := 0
	parts(&q, func(path string, v reflect.Value) {
		if v.Type() == place {
			n++
			v.Set(reflect.ValueOf(api.Pos{Line: -n, Column: api.MaxText + n}))
		}
	})
	if n < 20 || !tree.EqualProgram(p, q) || !tree.EqualStmts(p.Procs[0].Body, q.Procs[0].Body) {
		t.Error(n)
	}
	if tree.Program(q) {
		t.Error("a place may be anything")
	}
	parts(&q, func(path string, v reflect.Value) {
		if v.Type() == place {
			v.Set(reflect.ValueOf(api.Pos{Line: api.MaxText + 1}))
		}
	})
	if !tree.EqualProgram(p, q) || !tree.Program(q) {
		t.Error("a tree is not valid that is equal to a valid one")
	}
}

// smallExprs are different expressions, most of them not valid.
func smallExprs() []api.Expr {
	l := []api.Expr{{}, num(0), num(1), variable("x"), variable(""), null(), {Kind: api.Null, Name: "x"}, {Kind: -1}, {Kind: api.Var, Name: "x", N: 1}}
	for _, a := range slices.Clone(l) {
		l = append(l, mul(1, a), api.Expr{L: []api.Expr{a}})
		for _, b := range l[:4] {
			l = append(l, add(a, b), sub(a, b))
		}
	}
	return l
}

func TestEqualIsAnEquivalence(t *testing.T) {
	checkDifferent(t, smallExprs(), tree.EqualExpr)
	var formulas []api.Formula
	var lists [][]api.Stmt
	var programs []api.Program
	for _, e := range smallExprs() {
		formulas = append(formulas, api.Formula{Pure: []api.Atom{atom(api.Eq, e, num(1))}}, api.Formula{Pure: []api.Atom{atom(api.Eq, num(3), e)}}, api.Formula{Cells: []api.Cell{cell(api.Pred, "p", e)}})
		assign := api.Stmt{Kind: api.Assign, Name: "x", E: e}
		lists = append(lists, []api.Stmt{assign}, []api.Stmt{{Kind: api.With, Name: "M", Body: []api.Stmt{assign}}}, []api.Stmt{{Kind: api.With, Name: "M", Else: []api.Stmt{assign}}})
		programs = append(programs, api.Program{Procs: []api.Proc{{Name: "p", Body: []api.Stmt{assign}}}}, api.Program{Locks: []api.Lock{{Name: "p", Inv: formulas[len(formulas)-1:]}}}, api.Program{Defs: []api.Def{{Name: "p", Cases: formulas[len(formulas)-1:]}}})
	}
	checkDifferent(t, append(formulas, api.Formula{}), tree.EqualFormula)
	checkDifferent(t, append(lists, nil), tree.EqualStmts)
	checkDifferent(t, append(programs, api.Program{}), tree.EqualProgram)
}

// checkDifferent demands that each tree is equal to itself and to its copy, and to no other one of the list.
func checkDifferent[T any](t *testing.T, l []T, equal func(a, b T) bool) {
	t.Helper()
	for i, a := range l {
		for j, b := range l {
			if equal(a, deepCopy(b)) != (i == j) {
				t.Errorf("%v and %v", a, b)
			}
		}
	}
}

func TestEqualExamples(t *testing.T) {
	x, y := variable("x"), variable("y")
	if tree.EqualExpr(add(x, y), add(y, x)) || tree.EqualExpr(num(0), null()) || tree.EqualExpr(mul(1, x), x) || tree.EqualExpr(sub(x, num(1)), add(x, num(-1))) {
		t.Error("equality is not that of values")
	}
	if !tree.EqualExpr(num(1), api.Expr{Kind: api.Num, N: 1, L: []api.Expr{}}) {
		t.Error("nil and empty")
	}
	if !tree.EqualStmts(nil, []api.Stmt{}) || tree.EqualStmts(nil, []api.Stmt{{}}) {
		t.Error("nil and empty")
	}
}

func TestEqualDeepTrees(t *testing.T) {
	a, b := deepExprs(veryDeep), deepExprs(veryDeep-1)
	if !tree.EqualExpr(a[0], deepExprs(veryDeep)[0]) || tree.EqualExpr(a[0], b[0]) || tree.EqualExpr(a[1], a[2]) {
		t.Error("expressions")
	}
	for i, nest := range nests() {
		l := deepList(nest, veryDeep)
		other := deepList(nests()[(i+1)%4], veryDeep)
		if !tree.EqualStmts(l, deepList(nest, veryDeep)) || tree.EqualStmts(l, deepList(nest, veryDeep-1)) || tree.EqualStmts(l, other) {
			t.Error("statements", i)
		}
	}
}
