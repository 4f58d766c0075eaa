package format_test

import (
	"slices"
	"strings"
	"testing"

	"sepal/api"
	"sepal/format"
)

func TestItems(t *testing.T) {
	a, r := param("int", "a"), param("R", "r")
	x, y := name("x"), name("y")
	emp := []api.Formula{{}}
	two := []api.Formula{{Exists: params(r), Pure: []api.Atom{atom(api.Le, x, y)}, Cells: []api.Cell{pred("p", x)}}, {}}
	const TWO = "exists R r: x <= y & p(x) || emp"
	proc := func(p api.Proc) api.Program {
		p.Name = "p"
		return api.Program{Procs: []api.Proc{p}}
	}
	for want, p := range map[string]api.Program{
		"":                                {},
		"record R { int a; }\n":           {Records: []api.Record{{Name: "R", Fields: params(a)}}},
		"record R { R r; int a; R r; }\n": {Records: []api.Record{{Name: "R", Fields: params(r, a, r)}}},
		"global int a;\n":                 {Globals: params(a)}, "global R r;\nglobal int a;\n": {Globals: params(r, a)},
		"lock L invariant emp;\n":                                             {Locks: []api.Lock{{Name: "L", Inv: emp}}},
		"lock L invariant " + TWO + ";\n":                                     {Locks: []api.Lock{{Name: "L", Inv: two}}},
		"predicate q(int a) = emp;\n":                                         {Defs: []api.Def{{Name: "q", Params: params(a), Cases: emp}}},
		"predicate q(R r, int a) = " + TWO + ";\n":                            {Defs: []api.Def{{Name: "q", Params: params(r, a), Cases: two}}},
		"lemma m(): emp ==> emp;\n":                                           {Lemmas: []api.Lemma{{Name: "m"}}},
		"lemma m(int a): exists R r: x <= y & p(x) ==> emp;\n":                {Lemmas: []api.Lemma{{Name: "m", Params: params(a), Left: two[0]}}},
		"lemma m(R r, int a): emp ==> exists R r: x <= y & p(x);\n":           {Lemmas: []api.Lemma{{Name: "m", Params: params(r, a), Right: two[0]}}},
		"procedure p() {\n}\n":                                                proc(api.Proc{}),
		"procedure p(int a) {\n}\n":                                           proc(api.Proc{Params: params(a)}),
		"procedure p(R r, int a) {\n\tfree x;\n}\n":                           proc(api.Proc{Params: params(r, a), Body: []api.Stmt{{Kind: api.Free, Name: "x"}}}),
		"procedure p() returns (int a) {\n}\n":                                proc(api.Proc{Result: a}),
		"procedure p(int a) returns (R r) {\n\tint a;\n}\n":                   proc(api.Proc{Params: params(a), Result: r, Locals: params(a)}),
		"procedure p() requires emp ensures " + TWO + " {\n}\n":               proc(api.Proc{Contract: true, Requires: emp, Ensures: two}),
		"procedure p() requires " + TWO + " ensures emp {\n}\n":               proc(api.Proc{Contract: true, Requires: two, Ensures: emp}),
		"procedure p() logical (int a) requires emp ensures emp {\n}\n":       proc(api.Proc{Contract: true, Logical: params(a), Requires: emp, Ensures: emp}),
		"procedure p() returns (R r) requires emp ensures emp {\n}\n":         proc(api.Proc{Contract: true, Result: r, Requires: emp, Ensures: emp}),
		"procedure p() {\n\tR r;\n\tint a;\n\twith L {\n\t\tx = 1;\n\t}\n}\n": proc(api.Proc{Locals: params(r, a), Body: []api.Stmt{{Kind: api.With, Name: "L", Body: []api.Stmt{{Kind: api.Assign, Name: "x", E: num(1)}}}}}),
		"procedure p(int a) returns (R r) logical (R r, int a) requires emp || emp ensures " + TWO + " {\n\tint a;\n\tR r;\n\tfree x;\n\tfree y;\n}\n": proc(api.Proc{
			Contract: true, Params: params(a), Result: r, Logical: params(r, a), Requires: append(emp, emp...), Ensures: two, Locals: params(a, r), Body: []api.Stmt{{Kind: api.Free, Name: "x"}, {Kind: api.Free, Name: "y"}}}),
	} {
		checkText(t, format.Program, p, want)
		checkText(t, format.Program, api.Program{
			Records: twice(p.Records), Globals: twice(p.Globals), Locks: twice(p.Locks), Defs: twice(p.Defs), Lemmas: twice(p.Lemmas), Procs: twice(p.Procs),
		}, want+want)
	}
}

func twice[T any](l []T) []T {
	return slices.Repeat(l, 2)
}

// everything is the canonical text of a program that has everything.
const everything = `record Node { Node next; int data; }
record Cell { Cell other; }
global int bound;
global Node root;
lock L invariant exists Node n: root -> Node(n, 0) & ls(n, null);
lock M invariant emp || bound == 0;
predicate ls(Node x, Node y) = x == y || exists Node n, int d: x != y & x -> Node(n, d) & ls(n, y);
lemma join(Node x, Node y): ls(x, y) & ls(y, null) ==> ls(x, null);
lemma empty(): emp ==> 1 <= 2 & 0 < 1;
procedure pop(Node x, int k) returns (Node r) logical (Node z, int v) requires x -> Node(z, v) ensures r == z {
	Node t;
	int i;
	i = -3 * (k + 2) - (1 - k);
	if (x == null) {
	} else {
		t = x.next;
		free x;
	}
	if (i < 3 && !(k == 1 || k + 1 != 2)) {
		i = 0;
		while (i <= 3) invariant emp || i < 4 {
			i = i + 1;
			with M {
			}
		}
	}
	while (0 < i) {
		i = i - 1;
	}
	t = new Node;
	t.next = null;
	i = input;
	assert !(i == 3);
	with L {
		root.data = 2 * i;
		pop(t, i);
	}
	r = pop(t, 0);
	f();
	par { r = pop(x, 1); } { f(); }
}
procedure f() requires emp ensures emp {
}
procedure g(int a) {
	Cell c;
	c = new Cell;
}
`

func TestWrongProgram(t *testing.T) {
	a := params(param("int", "a"))
	emp := []api.Formula{{}}
	nine := slices.Repeat(a, api.MaxParams+1)
	existing := api.Formula{Exists: params(param("int", "a"), param("int", "b"), param("int", "c"), param("int", "d"), param("int", "e"), param("int", "f"), param("int", "g"), param("int", "h"), param("int", "i"))}
	for _, p := range []api.Program{
		{Records: []api.Record{{}}}, {Records: []api.Record{{Name: "R"}}}, {Records: []api.Record{{Name: "R", Fields: nine}}}, {Records: []api.Record{{Name: "int", Fields: a}}},
		{Globals: make([]api.Param, 1)}, {Globals: slices.Repeat(a, api.MaxList+1)}, {Globals: params(param("int", "$a"))},
		{Locks: []api.Lock{{Name: "L"}}}, {Locks: []api.Lock{{Inv: emp}}}, {Locks: []api.Lock{{Name: "L", Inv: []api.Formula{existing}}}}, {Locks: []api.Lock{{Name: "L", Inv: make([]api.Formula, api.MaxList+1)}}},
		{Defs: []api.Def{{Name: "p", Params: a}}}, {Defs: []api.Def{{Name: "p", Cases: emp}}}, {Defs: []api.Def{{Params: a, Cases: emp}}}, {Defs: []api.Def{{Name: "p", Params: nine, Cases: emp}}},
		{Lemmas: make([]api.Lemma, 1)}, {Lemmas: []api.Lemma{{Name: "m", Params: nine}}}, {Lemmas: []api.Lemma{{Name: "m", Left: existing}}}, {Lemmas: []api.Lemma{{Name: "m", Right: existing}}},
		{Procs: make([]api.Proc, 1)}, {Procs: []api.Proc{{Name: "p", Contract: true}}}, {Procs: []api.Proc{{Name: "p", Contract: true, Requires: emp}}}, {Procs: []api.Proc{{Name: "p", Requires: emp, Ensures: emp}}}, {Procs: []api.Proc{{Name: "p", Logical: a}}},
		{Procs: []api.Proc{{Name: "p", Result: param("int", "")}}}, {Procs: []api.Proc{{Name: "p", Result: param("", "r")}}}, {Procs: []api.Proc{{Name: "p", Pos: api.Pos{Line: -1}}}}, {Procs: []api.Proc{{Name: "p", Locals: make([]api.Param, 1)}}}, {Procs: []api.Proc{{Name: "p", Params: nine}}},
		{Procs: []api.Proc{{Name: "p", Body: make([]api.Stmt, 1)}}}, {Procs: []api.Proc{{Name: "p", Body: []api.Stmt{{Kind: api.Free, Name: "$x"}}}}}, {Procs: []api.Proc{{Name: "p", Body: []api.Stmt{{Kind: api.Assign, Name: "x", E: num(api.MaxInt + 1)}}}}},
		{Procs: make([]api.Proc, api.MaxList+1)}, {Procs: append(slices.Repeat([]api.Proc{{Name: "p"}}, api.MaxList), api.Proc{Name: "p"})},
	} {
		checkError(t, format.Program, p, api.ErrArg)
	}
	checkText(t, format.Program, api.Program{Procs: slices.Repeat([]api.Proc{{Name: "p"}}, api.MaxList)}, strings.Repeat("procedure p() {\n}\n", api.MaxList))
}
