package tree_test

import (
	"math"
	"slices"
	"strings"
	"testing"

	"sepal/api"
	"sepal/tree"
)

const (
	tooDeep  = api.MaxDepth + 1
	veryDeep = 1 << 16
)

func checkExpr(t *testing.T, e api.Expr, want bool) {
	t.Helper()
	if tree.Expr(e) != want {
		t.Errorf("Expr(%v) is %v", e, !want)
	}
}

func checkCond(t *testing.T, c api.Cond, want bool) {
	t.Helper()
	if tree.Cond(c) != want {
		t.Errorf("Cond(%v) is %v", c, !want)
	}
}

func checkFormula(t *testing.T, f api.Formula, want bool) {
	t.Helper()
	if tree.Formula(f) != want {
		t.Errorf("Formula(%v) is %v", f, !want)
	}
}

// plainNames are names that can stand everywhere.
func plainNames() []string {
	return []string{"x", "Z", "a_", "a1", "Int", "Null", "node", "abcdefghijklmnopqrst", "a___________________"}
}

// freshNames are names of variables that arise in proofs only.
func freshNames() []string {
	return []string{"$1", "$a", "$Z", "$_", "$9", "$0", "$free", "$int", "$a_1", "$abcdefghijklmnopqrs", "$0000000000000000000"}
}

func wrongNames() []string {
	return []string{
		"", " ", "_", "_a", "1", "2x", "free", "null", "exists", "a b", "a.b", "a-", " a", "a ", "a\n", "caf\u00e9", "a\x00", "abcdefghijklmnopqrstu",
		"$", "$$", "$$a", "a$", "$a$", "$ ", "$a b", "$a-b", "$\u00e9", "$a\x00", "$abcdefghijklmnopqrst", "-", "@",
	}
}

func numbersInRange() []int { return []int{0, 1, -1, api.MaxInt + 1, api.MaxCoef, -api.MaxCoef} }

func numbersOutOfRange() []int {
	return []int{api.MaxCoef + 1, -api.MaxCoef - 1, math.MaxInt, math.MinInt}
}

func TestExprNumbers(t *testing.T) {
	for _, n := range numbersInRange() {
		checkExpr(t, num(n), true)
		checkExpr(t, mul(n, variable("x")), true)
	}
	for _, n := range numbersOutOfRange() {
		checkExpr(t, num(n), false)
		checkExpr(t, mul(n, variable("x")), false)
		checkExpr(t, add(num(1), num(n)), false)
	}
}

func TestExprNames(t *testing.T) {
	for _, s := range slices.Concat(plainNames(), freshNames()) {
		checkExpr(t, variable(s), true)
		checkExpr(t, sub(num(1), variable(s)), true)
	}
	for _, s := range append(wrongNames(), "int") {
		checkExpr(t, variable(s), false)
		checkExpr(t, sub(num(1), variable(s)), false)
	}
	for i := range 256 {
		s := string([]byte{byte(i)})
		letter := 'a' <= i && i <= 'z' || 'A' <= i && i <= 'Z'
		follows := letter || '0' <= i && i <= '9' || s == "_"
		checkExpr(t, variable(s), letter)
		checkExpr(t, variable("$"+s), follows)
		checkExpr(t, variable("$a"+s+"a"), follows)
	}
}

func TestExprKinds(t *testing.T) {
	for _, kind := range []int{math.MinInt, -1, 0, 7, 8, 100, math.MaxInt} {
		checkExpr(t, api.Expr{Kind: kind}, false)
		checkExpr(t, api.Expr{Kind: kind, N: 1}, false)
		checkExpr(t, api.Expr{Kind: kind, Name: "x"}, false)
		checkExpr(t, api.Expr{Kind: kind, L: []api.Expr{num(1)}}, false)
		checkExpr(t, api.Expr{Kind: kind, L: []api.Expr{num(1), num(2)}}, false)
		checkExpr(t, mul(2, api.Expr{Kind: kind}), false)
	}
}

func TestExprFields(t *testing.T) {
	for _, e := range []api.Expr{num(0), num(5), variable("x"), null(), add(num(1), null()), sub(variable("x"), num(2)), mul(0, num(1)), mul(4, null())} {
		checkExpr(t, e, true)
		other := e
		other.N++
		checkExpr(t, other, e.Kind == api.Num || e.Kind == api.Mul)
		other = e
		other.Name = "y"
		checkExpr(t, other, e.Kind == api.Var)
		for n := range 4 {
			other = e
			other.L = slices.Repeat([]api.Expr{num(1)}, n)
			checkExpr(t, other, n == len(e.L))
		}
		for i := range e.L {
			other = e
			other.L = slices.Clone(e.L)
			other.L[i] = api.Expr{}
			checkExpr(t, other, false)
		}
	}
	for _, kind := range []int{api.Num, api.Null} {
		checkExpr(t, api.Expr{Kind: kind, L: []api.Expr{}}, true)
	}
	checkExpr(t, api.Expr{Kind: api.Var, Name: "x", L: []api.Expr{}}, true)
}

// deepExprs are expressions of this depth that differ in what is nested, and in what is the innermost.
func deepExprs(depth int) []api.Expr {
	var l []api.Expr
	for _, inner := range []api.Expr{num(1), variable("x"), null()} {
		for _, nest := range []func(e api.Expr) api.Expr{
			func(e api.Expr) api.Expr { return mul(2, e) },
			func(e api.Expr) api.Expr { return add(e, num(1)) },
			func(e api.Expr) api.Expr { return add(num(1), e) },
			func(e api.Expr) api.Expr { return sub(e, variable("y")) },
			func(e api.Expr) api.Expr { return sub(variable("y"), e) },
		} {
			e := inner
			for range depth - 1 {
				e = nest(e)
			}
			l = append(l, e)
		}
	}
	return l
}

func TestExprDepth(t *testing.T) {
	for _, e := range deepExprs(api.MaxDepth) {
		checkExpr(t, e, true)
	}
	for _, e := range slices.Concat(deepExprs(tooDeep), deepExprs(veryDeep)) {
		if tree.Expr(e) {
			t.Error("too deep")
		}
	}
}

func TestCondComparisons(t *testing.T) {
	for kind := api.Eq; kind <= api.Lt; kind++ {
		checkCond(t, comparison(kind, num(1), variable("$x")), true)
		checkCond(t, comparison(kind, api.Expr{}, variable("x")), false)
		checkCond(t, comparison(kind, num(1), api.Expr{}), false)
		checkCond(t, comparison(kind, num(1), num(api.MaxCoef+1)), false)
		checkCond(t, api.Cond{Kind: kind, A: num(1), B: num(2), L: []api.Cond{}}, true)
		for n := 1; n < 4; n++ {
			checkCond(t, api.Cond{Kind: kind, A: num(1), B: num(2), L: slices.Repeat([]api.Cond{comparison(api.Eq, num(1), num(2))}, n)}, false)
		}
		for _, e := range deepExprs(api.MaxDepth) {
			checkCond(t, comparison(kind, e, e), true)
		}
		for _, e := range deepExprs(tooDeep) {
			checkCond(t, comparison(kind, e, num(1)), false)
			checkCond(t, comparison(kind, num(1), e), false)
		}
	}
	checkCond(t, richCond(), true)
}

func TestCondOperands(t *testing.T) {
	c := comparison(api.Le, num(1), variable("x"))
	for kind, n := range map[int]int{api.Not: 1, api.And: 2, api.Or: 2} {
		for k := range 5 {
			checkCond(t, api.Cond{Kind: kind, L: slices.Repeat([]api.Cond{c}, k)}, k == n)
		}
		right := slices.Repeat([]api.Cond{c}, n)
		for i := range right {
			wrong := slices.Clone(right)
			wrong[i] = api.Cond{}
			checkCond(t, api.Cond{Kind: kind, L: wrong}, false)
		}
		for _, e := range []api.Expr{num(0), variable("x"), {N: 1}, {Name: "x"}, {L: []api.Expr{num(1)}}, {L: []api.Expr{{}}}} {
			checkCond(t, api.Cond{Kind: kind, L: right, A: e}, false)
			checkCond(t, api.Cond{Kind: kind, L: right, B: e}, false)
		}
		checkCond(t, api.Cond{Kind: kind, L: right, A: api.Expr{L: []api.Expr{}}, B: api.Expr{L: []api.Expr{}}}, true)
	}
	for _, kind := range []int{math.MinInt, -1, 0, 8, math.MaxInt} {
		checkCond(t, api.Cond{Kind: kind}, false)
		checkCond(t, api.Cond{Kind: kind, A: num(1), B: num(2)}, false)
		checkCond(t, api.Cond{Kind: kind, L: []api.Cond{c}}, false)
		checkCond(t, api.Cond{Kind: kind, L: []api.Cond{c, c}}, false)
	}
}

func deepConds(depth int) []api.Cond {
	var l []api.Cond
	eq := comparison(api.Eq, num(1), num(2))
	for _, nest := range []func(c api.Cond) api.Cond{
		not,
		func(c api.Cond) api.Cond { return both(api.And, c, eq) },
		func(c api.Cond) api.Cond { return both(api.And, eq, c) },
		func(c api.Cond) api.Cond { return both(api.Or, c, eq) },
		func(c api.Cond) api.Cond { return both(api.Or, eq, c) },
	} {
		c := comparison(api.Ne, mul(2, num(1)), num(2))
		for range depth - 1 {
			c = nest(c)
		}
		l = append(l, c)
	}
	return l
}

func TestCondDepth(t *testing.T) {
	for _, c := range deepConds(api.MaxDepth) {
		checkCond(t, c, true)
	}
	for _, c := range slices.Concat(deepConds(tooDeep), deepConds(veryDeep)) {
		if tree.Cond(c) {
			t.Error("too deep")
		}
	}
}

func TestFormulaAtoms(t *testing.T) {
	for kind := -1; kind <= 9; kind++ {
		checkFormula(t, api.Formula{Pure: []api.Atom{atom(kind, num(1), variable("$x"))}}, api.Eq <= kind && kind <= api.Lt)
		checkFormula(t, api.Formula{Pure: []api.Atom{atom(api.Eq, num(1), num(1)), atom(kind, num(1), num(1))}}, api.Eq <= kind && kind <= api.Lt)
	}
	for _, e := range append(deepExprs(tooDeep), api.Expr{}, num(api.MaxCoef+1), variable("$"), add(num(1), api.Expr{})) {
		checkFormula(t, api.Formula{Pure: []api.Atom{atom(api.Eq, e, num(1))}}, false)
		checkFormula(t, api.Formula{Pure: []api.Atom{atom(api.Eq, num(1), e)}}, false)
	}
	for _, e := range append(deepExprs(api.MaxDepth), num(-api.MaxCoef)) {
		checkFormula(t, api.Formula{Pure: []api.Atom{atom(api.Lt, e, e)}}, true)
	}
}

func TestFormulaCells(t *testing.T) {
	for n := range 12 {
		args := slices.Repeat([]api.Expr{variable("x")}, n)
		checkFormula(t, api.Formula{Cells: []api.Cell{cell(api.PointsTo, "Node", args...)}}, 2 <= n && n <= api.MaxParams+1)
		checkFormula(t, api.Formula{Cells: []api.Cell{cell(api.Pred, "ls", args...)}}, 1 <= n && n <= api.MaxParams)
		for _, kind := range []int{math.MinInt, -1, 0, 3, math.MaxInt} {
			checkFormula(t, api.Formula{Cells: []api.Cell{cell(kind, "ls", args...)}}, false)
		}
	}
	for _, kind := range []int{api.PointsTo, api.Pred} {
		for _, s := range plainNames() {
			checkFormula(t, api.Formula{Cells: []api.Cell{cell(kind, s, null(), num(1))}}, true)
		}
		for _, s := range slices.Concat(wrongNames(), freshNames(), []string{"int"}) {
			checkFormula(t, api.Formula{Cells: []api.Cell{cell(kind, s, null(), num(1))}}, false)
		}
		for _, e := range append(deepExprs(tooDeep), api.Expr{}, variable("2x")) {
			checkFormula(t, api.Formula{Cells: []api.Cell{cell(kind, "C", e, num(1))}}, false)
			checkFormula(t, api.Formula{Cells: []api.Cell{cell(kind, "C", num(1), e)}}, false)
		}
		checkFormula(t, api.Formula{Cells: []api.Cell{cell(kind, "C", slices.Repeat(deepExprs(api.MaxDepth)[:1], 4)...)}}, true)
	}
}

func TestFormulaExists(t *testing.T) {
	for _, s := range slices.Concat(plainNames(), freshNames()) {
		checkFormula(t, api.Formula{Exists: []api.Param{param("int", s)}}, true)
	}
	for _, s := range append(wrongNames(), "int") {
		checkFormula(t, api.Formula{Exists: []api.Param{param("int", s)}}, false)
	}
	for _, s := range append(plainNames(), "int") {
		checkFormula(t, api.Formula{Exists: []api.Param{param(s, "x")}}, true)
	}
	for _, s := range slices.Concat(wrongNames(), freshNames()) {
		checkFormula(t, api.Formula{Exists: []api.Param{param(s, "x")}}, false)
	}
	checkFormula(t, api.Formula{Exists: []api.Param{param("int", "a"), param("int", "b"), param("Node", "a")}}, false)
	checkFormula(t, api.Formula{Exists: []api.Param{param("int", "a"), param("int", "$a"), param("int", "A"), param("a", "b")}}, true)
}

// names returns n different names.
func names(n int) []string {
	l := make([]string, n)
	for i := range l {
		l[i] = "n" + strings.Repeat("x", i/10) + string(rune('0'+i%10))
	}
	return l
}

func params(n int) []api.Param {
	var l []api.Param
	for _, s := range names(n) {
		l = append(l, param("int", s))
	}
	return l
}

func TestFormulaLimits(t *testing.T) {
	a, c := atom(api.Eq, num(1), num(1)), cell(api.Pred, "p", num(1))
	full := api.Formula{Exists: params(api.MaxList), Pure: slices.Repeat([]api.Atom{a}, api.MaxList), Cells: slices.Repeat([]api.Cell{c}, api.MaxList)}
	checkFormula(t, full, true)
	checkFormula(t, api.Formula{}, true)
	checkFormula(t, api.Formula{Exists: []api.Param{}, Pure: []api.Atom{}, Cells: []api.Cell{}}, true)
	f := full
	f.Exists = params(api.MaxList + 1)
	checkFormula(t, f, false)
	f = full
	f.Exists = append(params(api.MaxList-1), param("Node", names(1)[0]))
	checkFormula(t, f, false)
	f = full
	f.Pure = append(full.Pure, a)
	checkFormula(t, f, false)
	f = full
	f.Cells = append(full.Cells, c)
	checkFormula(t, f, false)
	for i := range api.MaxList {
		f = deepCopy(full)
		f.Pure[i].Kind = api.Not
		checkFormula(t, f, false)
		f = deepCopy(full)
		f.Cells[i].Kind = 0
		checkFormula(t, f, false)
		f = deepCopy(full)
		f.Exists[i].Type = "null"
		checkFormula(t, f, false)
	}
}
