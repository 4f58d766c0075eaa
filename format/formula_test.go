package format_test

import (
	"slices"
	"strings"
	"testing"

	"sepal/api"
	"sepal/format"
)

// one formats a disjunction of a single formula.
func one(f api.Formula) (string, api.Errno) {
	return format.Formula([]api.Formula{f})
}

func TestFormula(t *testing.T) {
	x, y, n := name("x"), name("y"), name("n")
	node, i := param("Node", "n"), param("int", "i")
	ne, le := atom(api.Ne, x, y), atom(api.Le, num(0), add(x, num(-1)))
	for want, f := range map[string]api.Formula{
		"emp": {}, "exists Node n: emp": {Exists: params(node)}, "exists int i, Node n: emp": {Exists: params(i, node)}, "exists int $1: emp": {Exists: params(param("int", "$1"))},
		"x != y": {Pure: []api.Atom{ne}}, "0 <= x + -1 & x != y": {Pure: []api.Atom{le, ne}}, "x < 2 * (y - 3)": {Pure: []api.Atom{atom(api.Lt, x, mul(2, sub(y, num(3))))}}, "null == n": {Pure: []api.Atom{atom(api.Eq, null(), n)}},
		"x - (y - n) == x": {Pure: []api.Atom{atom(api.Eq, sub(x, sub(y, n)), x)}},
		"ls(x)":            {Cells: []api.Cell{pred("ls", x)}}, "ls(x, null, y - (n - 1))": {Cells: []api.Cell{pred("ls", x, null(), sub(y, sub(n, num(1))))}},
		"x -> Node(n)": {Cells: []api.Cell{points("Node", x, n)}}, "x + 1 -> Node(-2 * n, null)": {Cells: []api.Cell{points("Node", add(x, num(1)), mul(-2, n), null())}}, "x - (y + 1) -> R(0)": {Cells: []api.Cell{points("R", sub(x, add(y, num(1))), num(0))}},
		"ls(x, y) & x -> Node(y)":                         {Cells: []api.Cell{pred("ls", x, y), points("Node", x, y)}},
		"x -> Node(y) & ls(x, y) & ls(y)":                 {Cells: []api.Cell{points("Node", x, y), pred("ls", x, y), pred("ls", y)}},
		"x != y & 0 <= x + -1 & ls(x) & y -> R(1)":        {Pure: []api.Atom{ne, le}, Cells: []api.Cell{pred("ls", x), points("R", y, num(1))}},
		"exists Node n, int i: x != y & ls(x)":            {Exists: params(node, i), Pure: []api.Atom{ne}, Cells: []api.Cell{pred("ls", x)}},
		"exists Node n: x != y & x -> Node(n) & ls(n, y)": {Exists: params(node), Pure: []api.Atom{ne}, Cells: []api.Cell{points("Node", x, n), pred("ls", n, y)}},
		"x -> R(1, 2, 3, 4, 5, 6, 7, 8)":                  {Cells: []api.Cell{points("R", x, num(1), num(2), num(3), num(4), num(5), num(6), num(7), num(8))}},
	} {
		checkText(t, one, f, want)
		checkText(t, format.Formula, []api.Formula{f, f}, want+" || "+want)
		checkText(t, format.Formula, []api.Formula{{}, f, {Pure: []api.Atom{ne}}}, "emp || "+want+" || x != y")
	}
}

func TestLongFormula(t *testing.T) {
	x := name("x")
	repeat := func(s, between string) string {
		return strings.Repeat(s+between, api.MaxList-1) + s
	}
	checkText(t, one, api.Formula{Pure: slices.Repeat([]api.Atom{atom(api.Eq, x, x)}, api.MaxList), Cells: slices.Repeat([]api.Cell{pred("p", x)}, api.MaxList)}, repeat("x == x", " & ")+" & "+repeat("p(x)", " & "))
	checkText(t, format.Formula, make([]api.Formula, api.MaxList), repeat("emp", " || "))
	var exists []api.Param
	for i := range api.MaxList {
		exists = append(exists, param("int", "$"+strings.Repeat("a", 1+i%10)+strings.Repeat("b", i/10)))
	}
	s, e := one(api.Formula{Exists: exists})
	if e != api.OK || strings.Count(s, ", int $") != api.MaxList-1 {
		t.Error(s, e)
	}
	checkError(t, one, api.Formula{Exists: append(exists, param("int", "x"))}, api.ErrArg)
}

func TestWrongFormula(t *testing.T) {
	checkError(t, format.Formula, nil, api.ErrArg)
	checkError(t, format.Formula, []api.Formula{}, api.ErrArg)
	checkError(t, format.Formula, make([]api.Formula, api.MaxList+1), api.ErrArg)
	x, node := name("x"), param("Node", "n")
	l := []api.Formula{
		{Exists: params(node, param("int", "n"))}, {Exists: params(api.Param{})}, {Exists: params(param("", "n"))}, {Exists: params(param("$R", "n"))}, {Exists: params(param("R", "exists"))},
		{Pure: []api.Atom{{}}}, {Pure: []api.Atom{atom(api.Not, x, x)}}, {Pure: slices.Repeat([]api.Atom{atom(api.Eq, x, x)}, api.MaxList+1)},
		{Cells: []api.Cell{{}}}, {Cells: []api.Cell{pred("p")}}, {Cells: []api.Cell{points("R", x)}}, {Cells: []api.Cell{pred("$p", x)}}, {Cells: []api.Cell{points("int", x, x)}}, {Cells: []api.Cell{{Kind: 3, Name: "p", Args: []api.Expr{x, x}}}},
		{Cells: []api.Cell{pred("p", slices.Repeat([]api.Expr{x}, api.MaxParams+1)...)}}, {Cells: []api.Cell{points("R", slices.Repeat([]api.Expr{x}, api.MaxParams+2)...)}}, {Cells: slices.Repeat([]api.Cell{pred("p", x)}, api.MaxList+1)},
	}
	for _, e := range wrongExprs() {
		l = append(l, api.Formula{Pure: []api.Atom{atom(api.Eq, e, x)}}, api.Formula{Pure: []api.Atom{atom(api.Lt, x, e)}}, api.Formula{Cells: []api.Cell{pred("p", x, e)}}, api.Formula{Cells: []api.Cell{points("R", e, x)}})
	}
	for _, f := range l {
		checkError(t, one, f, api.ErrArg)
		checkError(t, format.Formula, []api.Formula{{}, f}, api.ErrArg)
		checkError(t, format.Formula, []api.Formula{f, {}, {}}, api.ErrArg)
	}
}
