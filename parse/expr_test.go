package parse_test

import (
	"strings"
	"testing"

	"sepal/api"
	"sepal/parse"
)

func checkExpr(t *testing.T, s string, want api.Expr) {
	t.Helper()
	e, place, err := parse.Expr(s)
	if err != api.OK || place != (api.Pos{}) || show(e) != show(want) {
		t.Errorf("%.80q: %v, %v, %d, want %v", s, e, place, err, want)
	}
}

func TestExpr(t *testing.T) {
	a, b, c, d := name("a"), name("b"), name("c"), name("d")
	for s, want := range map[string]api.Expr{
		"a": a, "Node_1": name("Node_1"), "iff": name("iff"), "null": null(), "0": num(0), "7": num(7), "1048576": num(api.MaxInt),
		"-0": num(0), "-7": num(-7), "- 7": num(-7), "-1048576": num(-api.MaxInt),
		"a + b": add(a, b), "a - b": sub(a, b), "a-1": sub(a, num(1)), "a - -1": sub(a, num(-1)), "a--1": sub(a, num(-1)), "a + -1": add(a, num(-1)),
		"a + b + c": add(add(a, b), c), "a - b - c": sub(sub(a, b), c), "a - b + c": add(sub(a, b), c), "a + b - c": sub(add(a, b), c),
		"a + b - c + d": add(sub(add(a, b), c), d), "a - b - c - d": sub(sub(sub(a, b), c), d), "-1 - 2 - 3": sub(sub(num(-1), num(2)), num(3)),
		"a - (b - c)": sub(a, sub(b, c)), "(a - b) - c": sub(sub(a, b), c), "a + (b + c) + d": add(add(a, add(b, c)), d), "a - (b - (c - d))": sub(a, sub(b, sub(c, d))),
		"2 * a": mul(2, a), "-2 * a": mul(-2, a), "0 * a": mul(0, a), "2 * 3": mul(2, num(3)), "2 * -3": mul(2, num(-3)), "2 * null": mul(2, null()),
		"2 * 3 * a": mul(2, mul(3, a)), "-2 * -3 * -4": mul(-2, mul(-3, num(-4))), "2 * a + b": add(mul(2, a), b), "a + 2 * b": add(a, mul(2, b)),
		"a - 2 * b - 3": sub(sub(a, mul(2, b)), num(3)), "2 * a - 3 * b": sub(mul(2, a), mul(3, b)), "2 * (a + b)": mul(2, add(a, b)), "2 * (a) + b": add(mul(2, a), b),
		"2 * (3 * (a - b) + 1)": mul(2, add(mul(3, sub(a, b)), num(1))), "a - 2 * 3 * b - c": sub(sub(a, mul(2, mul(3, b))), c), "a - -2 * b": sub(a, mul(-2, b)),
		"(a)": a, "((a))": a, "(-7)": num(-7), "(null)": null(), "(2) + 3": add(num(2), num(3)), "((a) + ((b)))": add(a, b), "(2 * a)": mul(2, a),
	} {
		checkExpr(t, s, want)
	}
}

func TestExprErrors(t *testing.T) {
	for _, c := range []struct {
		s      string
		column int
	}{
		{"a b", 3}, {"a 1", 3}, {"1 a", 3}, {"a * 2", 3}, {"a * b", 3}, {"(2) * a", 5}, {"null * 2", 6}, {"-a", 2}, {"-null", 2}, {"-(1)", 2}, {"--1", 2}, {"+1", 1}, {"a + + b", 5}, {"a - - b", 7},
		{")", 1}, {"()", 2}, {"(a))", 4}, {"a)", 2}, {"(a b)", 4}, {"(a,b)", 3}, {"a, b", 2}, {"a.b", 2}, {"a(b)", 2}, {"a == b", 3}, {"a -> R(b)", 3}, {"emp", 1}, {"int", 1}, {"2 * * 3", 5}, {"2 * if", 5},
		{"a;", 2}, {"2 3", 3}, {"{a}", 1}, {"a + (b - )", 10},
	} {
		checkError(t, "expr", c.s, 1, c.column, api.ErrForm)
	}
	for _, s := range []string{"", " ", "\n#a", "-", "a +", "a -", "a - -", "2 *", "2 * -", "(", "(a", "(a + ", "((a)", "2 * (a"} {
		checkError(t, "expr", s, 0, 0, api.ErrEnd)
	}
	checkError(t, "expr", "a +\n\n  (b\n c)", 4, 2, api.ErrForm)
}

// leaves and the trees of some depth over them
func exprs(depth int) []api.Expr {
	l := []api.Expr{name("a"), num(-1), null()}
	if depth == 1 {
		return l
	}
	for i, x := range exprs(depth - 1) {
		l = append(l, mul(2-i, x))
		for _, y := range exprs(depth - 1) {
			l = append(l, add(x, y), sub(x, y))
		}
	}
	return l
}

// full writes an expression with all parentheses, sparse only with those that are necessary.
func full(e api.Expr) string {
	switch e.Kind {
	case api.Add:
		return "(" + full(e.L[0]) + "+" + full(e.L[1]) + ")"
	case api.Sub:
		return "(" + full(e.L[0]) + "-" + full(e.L[1]) + ")"
	case api.Mul:
		return "(" + show(e.N) + "*" + full(e.L[0]) + ")"
	case api.Num:
		return "(" + show(e.N) + ")"
	case api.Null:
		return "null"
	}
	return "(" + e.Name + ")"
}

func sparse(e api.Expr) string {
	atomic := func(e api.Expr) string {
		if e.Kind == api.Add || e.Kind == api.Sub {
			return "(" + sparse(e) + ")"
		}
		return sparse(e)
	}
	switch e.Kind {
	case api.Add:
		return sparse(e.L[0]) + "+" + atomic(e.L[1])
	case api.Sub:
		return sparse(e.L[0]) + "-" + atomic(e.L[1])
	case api.Mul:
		return show(e.N) + "*" + atomic(e.L[0])
	}
	return strings.Trim(full(e), "()")
}

func TestExprsWithParentheses(t *testing.T) {
	l := exprs(3)
	for _, e := range l {
		checkExpr(t, full(e), e)
		checkExpr(t, sparse(e), e)
		checkExpr(t, "((("+sparse(e)+")))", e)
		checkExpr(t, "\t"+strings.NewReplacer("(", "(#(\n", "*", " *\r\n", "+", "\n+ ").Replace(sparse(e))+" # )", e)
	}
	if len(l) < 1000 {
		t.Error(len(l))
	}
}
