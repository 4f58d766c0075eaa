package parse_test

import (
	"fmt"
	"testing"

	"sepal/api"
	"sepal/parse"
	"sepal/tree"
)

// everything is a program that follows each line of the grammar.
const everything = `record Node { Node next; int data; }
record Cell { Cell other; }
global int bound;
global Node root;
lock L invariant exists Node n: root -> Node(n, 0) & ls(n, null);
lock M invariant emp || bound == 0;
predicate ls(Node x, Node y) = x == y & emp || exists Node n, int d: x != y & x -> Node(n, d) & ls(n, y);
lemma join(Node x, Node y): ls(x, y) & ls(y, null) ==> ls(x, null);
lemma empty(): emp ==> 1 <= 2 & 0 < 1;
procedure pop(Node x, int k) returns (Node r) logical (Node z, int v) requires x -> Node(z, v) ensures r == z {
	Node t;
	int i;
	i = -3 * (k + 2) - (1 - k);
	if (x == null) { } else { t = x.next; free x; }
	if ((i) < 3 && !(k == 1 || (k + 1) != 2)) { i = 0; }
	while (i <= 3) invariant emp || i < 4 { i = i + 1; }
	while (0 < i) { i = i - 1; }
	t = new Node;
	t.next = null;
	i = input;
	assert !i == 3;
	with L { root.data = 2 * i; pop(t, i); }
	r = pop(t, 0);
	f();
	par { r = pop(x, 1); } { f(); }
}
procedure f() requires emp ensures emp { }
procedure g(int a) { Cell c; c = new Cell; }
`

func parseAs(name, s string) (api.Pos, api.Errno) {
	var place api.Pos
	var e api.Errno
	var zero, valid bool
	switch name {
	case "expr":
		var x api.Expr
		x, place, e = parse.Expr(s)
		zero, valid = tree.EqualExpr(x, api.Expr{}), tree.Expr(x)
	case "condition":
		var c api.Cond
		c, place, e = parse.Cond(s)
		zero, valid = sameCond(c, api.Cond{}), tree.Cond(c)
	case "assertion":
		var l []api.Formula
		l, place, e = parse.Formula(s)
		zero, valid = len(l) == 0, len(l) > 0
		for _, f := range l {
			valid = valid && tree.Formula(f)
		}
	default:
		var p api.Program
		p, place, e = parse.Program(s)
		zero, valid = tree.EqualProgram(p, api.Program{}), tree.Program(p)
	}
	if e == api.OK && (!valid || place != api.Pos{}) || e != api.OK && !zero {
		panic(fmt.Sprint("wrong results for ", s))
	}
	return place, e
}

func sameCond(a, b api.Cond) bool {
	statement := func(c api.Cond) []api.Stmt { return []api.Stmt{{Kind: api.Assert, C: c}} }
	return tree.EqualStmts(statement(a), statement(b))
}

// checkError demands this error for a text; line 0 is no place.
func checkError(t *testing.T, name, s string, line, column int, want api.Errno) {
	t.Helper()
	place, e := parseAs(name, s)
	if e != want || place != (api.Pos{Line: line, Column: column}) {
		t.Errorf("%s %.60q: %v, %d, want %d:%d, %d", name, s, place, e, line, column, want)
	}
}

// show writes a tree with all of its places; nil and empty lists are the same.
func show(x any) string {
	return fmt.Sprintf("%+v", x)
}

func num(n int) api.Expr             { return api.Expr{Kind: api.Num, N: n} }
func name(s string) api.Expr         { return api.Expr{Kind: api.Var, Name: s} }
func null() api.Expr                 { return api.Expr{Kind: api.Null} }
func add(a, b api.Expr) api.Expr     { return api.Expr{Kind: api.Add, L: []api.Expr{a, b}} }
func sub(a, b api.Expr) api.Expr     { return api.Expr{Kind: api.Sub, L: []api.Expr{a, b}} }
func mul(n int, a api.Expr) api.Expr { return api.Expr{Kind: api.Mul, N: n, L: []api.Expr{a}} }

func compare(kind int, a, b api.Expr) api.Cond {
	return api.Cond{Kind: kind, A: a, B: b}
}

func join(kind int, l ...api.Cond) api.Cond {
	return api.Cond{Kind: kind, L: l}
}

func atom(kind int, a, b api.Expr) api.Atom {
	return api.Atom{Kind: kind, A: a, B: b}
}

func pred(name string, args ...api.Expr) api.Cell {
	return api.Cell{Kind: api.Pred, Name: name, Args: args}
}

func points(name string, args ...api.Expr) api.Cell {
	return api.Cell{Kind: api.PointsTo, Name: name, Args: args}
}
