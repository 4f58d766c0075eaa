package types_test

import (
	"reflect"
	"strings"
	"testing"

	"sepal/api"
	"sepal/parse"
	"sepal/types"
)

func num(n int) api.Expr             { return api.Expr{Kind: api.Num, N: n} }
func name(s string) api.Expr         { return api.Expr{Kind: api.Var, Name: s} }
func null() api.Expr                 { return api.Expr{Kind: api.Null} }
func add(a, b api.Expr) api.Expr     { return api.Expr{Kind: api.Add, L: []api.Expr{a, b}} }
func sub(a, b api.Expr) api.Expr     { return api.Expr{Kind: api.Sub, L: []api.Expr{a, b}} }
func mul(n int, a api.Expr) api.Expr { return api.Expr{Kind: api.Mul, N: n, L: []api.Expr{a}} }

func param(kind, name string) api.Param { return api.Param{Type: kind, Name: name} }

// head has the records and the predicates that the texts of the tests use.
const head = `record Node { Node next; }
record Cons { int head; Cons tail; }
predicate ls(Node x, Node y) = x == y || exists Node n: x != y & x -> Node(n) & ls(n, y);
predicate sorted(Cons x, Cons y, int lo) = x == y || exists int d, Cons n: x != y & lo <= d & x -> Cons(d, n) & sorted(n, y, d);
`

func parsed(t *testing.T, text string) api.Program {
	t.Helper()
	p, place, err := parse.Program(text)
	if err != api.OK {
		t.Fatalf("%d at %v of\n%s", err, place, text)
	}
	return p
}

// placeAt returns the place of a byte of a text; the zero place, if there is none.
func placeAt(text string, index int) api.Pos {
	if index < 0 {
		return api.Pos{}
	}
	before := text[:index]
	return api.Pos{Line: strings.Count(before, "\n") + 1, Column: index - strings.LastIndex(before, "\n")}
}

// marked returns a text without its "@", and the place that this has marked.
func marked(text string) (string, api.Pos) {
	return strings.ReplaceAll(text, "@", ""), placeAt(text, strings.Index(text, "@"))
}

// checkFault demands that a program has this fault, with the place that "@" marks in its text (the zero place without one), or none if the error is OK.
func checkFault(t *testing.T, text, name string, e api.Errno) {
	t.Helper()
	text, place := marked(text)
	var want []types.Fault
	if e != api.OK {
		want = []types.Fault{{Pos: place, Name: name, E: e}}
	}
	checkFaults(t, text, parsed(t, text), want)
}

func checkFaults(t *testing.T, text string, p api.Program, want []types.Fault) {
	t.Helper()
	if l := types.Check(p); len(l) != len(want) || len(l) == 1 && l[0] != want[0] {
		t.Errorf("%v, want %v, of\n%s", l, want, text)
	}
	if types.Valid(p) != (len(want) == 0) {
		t.Errorf("valid, or not, though it has %v:\n%s", want, text)
	}
}

func TestProgramsStayAsTheyAre(t *testing.T) {
	for _, text := range []string{richText, strings.Replace(richText, "v7 = v2;", "v7 = zz;", 1)} {
		p := parsed(t, text)
		types.Check(p)
		types.Valid(p)
		f := p.Defs[1].Cases[1]
		types.Formula(p, p.Defs[1].Params, f)
		types.Scope(p, "p1")
		if !reflect.DeepEqual(p, parsed(t, text)) {
			t.Error("changed")
		}
	}
}
