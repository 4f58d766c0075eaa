package parse_test

import (
	"strings"
	"testing"

	"sepal/api"
	"sepal/parse"
)

func checkFormula(t *testing.T, s string, want ...api.Formula) {
	t.Helper()
	l, place, err := parse.Formula(s)
	if err != api.OK || place != (api.Pos{}) || show(l) != show(want) {
		t.Errorf("%.80q: %v, %v, %d, want %v", s, l, place, err, want)
	}
}

func pure(l ...api.Atom) api.Formula  { return api.Formula{Pure: l} }
func cells(l ...api.Cell) api.Formula { return api.Formula{Cells: l} }

func TestFormula(t *testing.T) {
	a, b, x, y, n := name("a"), name("b"), name("x"), name("y"), name("n")
	ab, emp := atom(api.Eq, a, b), api.Formula{}
	for s, want := range map[string][]api.Formula{
		"emp": {emp}, "emp & emp": {emp}, "emp || emp": {emp, emp}, "emp || emp & emp || emp": {emp, emp, emp},
		"a == b": {pure(ab)}, "a != b": {pure(atom(api.Ne, a, b))}, "a <= b": {pure(atom(api.Le, a, b))}, "a < b": {pure(atom(api.Lt, a, b))},
		"emp & a == b": {pure(ab)}, "a == b & emp": {pure(ab)}, "a == b & a < 1 & 1 < b": {pure(ab, atom(api.Lt, a, num(1)), atom(api.Lt, num(1), b))},
		"(a + 1) - b == 2 * (b)": {pure(atom(api.Eq, sub(add(a, num(1)), b), mul(2, b)))}, "(a) == (b)": {pure(ab)}, "null != -1": {pure(atom(api.Ne, null(), num(-1)))},
		"ls(x)": {cells(pred("ls", x))}, "ls(x, y)": {cells(pred("ls", x, y))}, "ls(x + 1, null, (2))": {cells(pred("ls", add(x, num(1)), null(), num(2)))}, "p (x)": {cells(pred("p", x))},
		"x -> R(y)": {cells(points("R", x, y))}, "x -> R(y, 0, null)": {cells(points("R", x, y, num(0), null()))}, "(x) + 1 -> R(y)": {cells(points("R", add(x, num(1)), y))}, "null -> R(x)": {cells(points("R", null(), x))},
		"(x) -> R((y))": {cells(points("R", x, y))}, "2 * x -> R(x - 1, x)": {cells(points("R", mul(2, x), sub(x, num(1)), x))}, "x -> R(x) & x -> R(y)": {cells(points("R", x, x), points("R", x, y))},
		"ls(x, y) & a == b & y -> R(x) & a < b & ls(y)": {{Pure: []api.Atom{ab, atom(api.Lt, a, b)}, Cells: []api.Cell{pred("ls", x, y), points("R", y, x), pred("ls", y)}}},
		"exists int n: emp":                             {{Exists: []api.Param{{Type: "int", Name: "n"}}}}, "exists Node n: x -> R(n)": {{Exists: []api.Param{{Type: "Node", Name: "n"}}, Cells: []api.Cell{points("R", x, n)}}},
		"exists Node n, int n1, Node n: emp || emp": nil,
		"exists Node n, int i: n == i || a == b || exists int n: emp": {
			{Exists: []api.Param{{Type: "Node", Name: "n"}, {Type: "int", Name: "i"}}, Pure: []api.Atom{atom(api.Eq, n, name("i"))}}, pure(ab), {Exists: []api.Param{{Type: "int", Name: "n"}}}},
		"a == b || ls(x) || x -> R(y)":                    {pure(ab), cells(pred("ls", x)), cells(points("R", x, y))},
		"exists Node n: x != y & x -> Node(n) & ls(n, y)": {{Exists: []api.Param{{Type: "Node", Name: "n"}}, Pure: []api.Atom{atom(api.Ne, x, y)}, Cells: []api.Cell{points("Node", x, n), pred("ls", n, y)}}},
	} {
		if want == nil {
			checkError(t, "assertion", s, 0, 0, api.ErrFull)
			continue
		}
		checkFormula(t, s, want...)
		checkFormula(t, strings.ReplaceAll(s, " ", "\n#(\n\t"), want...)
	}
}

func TestFormulaErrors(t *testing.T) {
	for _, c := range []struct {
		s      string
		column int
	}{
		{"a", 0}, {"a + b", 0}, {"ls(x) & a", 0}, {"a b", 3}, {"a == b == a", 8}, {"a && b", 3}, {"a == b && b == a", 8}, {"!a == b", 1}, {"emp emp", 5}, {"emp == 1", 5}, {"emp(a)", 4}, {"emp & & emp", 7}, {"emp || || emp", 8}, {"|| emp", 1}, {"& emp", 1},
		// A part is a predicate if it begins with a name that is followed by "(".
		{"ls(x) == 1", 7}, {"ls(x) -> R(y)", 7}, {"ls() & emp", 4}, {"(ls(x))", 4}, {"1 + ls(x)", 7}, {"ls", 0}, {"ls x", 4}, {"if(x)", 1}, {"2(x)", 2}, {"ls(x,)", 6}, {"ls(x y)", 6}, {"ls((x)", 0}, {"ls(x == y)", 6}, {"ls(emp)", 4}, {"x == ls(y)", 8}, {"ls(ls(y))", 6},
		{"(a == b)", 4}, {"(a) b", 5}, {"a -> b", 0}, {"a -> R", 0}, {"a -> R(", 0}, {"a -> R()", 8}, {"a -> (b)", 6}, {"a -> 1(b)", 6}, {"a -> int(b)", 6}, {"a -> R(b) == c", 11}, {"a -> R(b) -> R(c)", 11}, {"a == b -> R(c)", 8}, {"a - > R(b)", 5}, {"a = b", 3},
		{"exists", 0}, {"exists :", 8}, {"exists n: emp", 9}, {"exists Node: emp", 12}, {"exists Node n emp", 15}, {"exists Node n,: emp", 15}, {"exists Node n m: emp", 15}, {"exists Node n:", 0}, {"exists Node n: ||", 16}, {"exists Node n: exists Node m: emp", 16}, {"emp & exists Node n: emp", 7},
		{"exists int int: emp", 12}, {"exists 1 n: emp", 8}, {"exists Node n: emp & n", 0}, {"exists (Node n): emp", 8}, {"exists R null: emp", 10}, {"emp;", 4}, {"emp ==> emp", 5}, {"emp)", 4}, {"emp {", 5}, {"emp ||", 0}, {"emp &", 0}, {"", 0}, {"# emp", 0},
	} {
		if c.column == 0 {
			checkError(t, "assertion", c.s, 0, 0, api.ErrEnd)
		} else {
			checkError(t, "assertion", c.s, 1, c.column, api.ErrForm)
		}
	}
	checkError(t, "assertion", "exists R a,\n R b:\n  a == b ||\n\tb", 0, 0, api.ErrEnd)
	checkError(t, "assertion", "exists R a,\n R b:\n  a == b ||\n\t-b < a", 4, 3, api.ErrForm)
}
