package parse_test

import (
	"strings"
	"testing"

	"sepal/api"
	"sepal/parse"
	"sepal/tree"
)

func checkProgram(t *testing.T, s string, want api.Program) {
	t.Helper()
	p, place, err := parse.Program(s)
	if err != api.OK || place != (api.Pos{}) || show(p) != show(want) {
		t.Errorf("%.80q: %v, %v, %d, want %v", s, p, place, err, want)
	}
}

func param(kind, name string) api.Param {
	return api.Param{Type: kind, Name: name}
}

func params(l ...api.Param) []api.Param {
	return l
}

func TestItems(t *testing.T) {
	ab, cR := param("int", "a"), param("R", "c")
	emp := []api.Formula{{}}
	one := []api.Formula{pure(atom(api.Eq, name("a"), num(1)))}
	for s, want := range map[string]api.Program{
		"": {}, "\n#record": {},
		"record R { int a; }": {Records: []api.Record{{Name: "R", Fields: params(ab)}}}, "record R{R c;int a;R c;}": {Records: []api.Record{{Name: "R", Fields: params(cR, ab, cR)}}},
		"global int a;": {Globals: params(ab)}, "global R c;": {Globals: params(cR)},
		"lock L invariant emp;": {Locks: []api.Lock{{Name: "L", Inv: emp}}}, "lock L invariant a == 1 || emp;": {Locks: []api.Lock{{Name: "L", Inv: append(one, emp...)}}},
		"predicate p(int a) = emp;":              {Defs: []api.Def{{Name: "p", Params: params(ab), Cases: emp}}},
		"predicate p(R c, int a) = emp || a==1;": {Defs: []api.Def{{Name: "p", Params: params(cR, ab), Cases: append(emp, one...)}}},
		"lemma l(): emp ==> a == 1;":             {Lemmas: []api.Lemma{{Name: "l", Right: one[0]}}}, "lemma l(R c): a == 1 ==> emp;": {Lemmas: []api.Lemma{{Name: "l", Params: params(cR), Left: one[0]}}},
		"lemma l(R c, int a) : exists R n: p(n) ==> exists int a: a == 1;": {Lemmas: []api.Lemma{{Name: "l", Params: params(cR, ab), Left: api.Formula{Exists: params(param("R", "n")), Cells: []api.Cell{pred("p", name("n"))}}, Right: api.Formula{Exists: params(ab), Pure: one[0].Pure}}}},
		"procedure p() { }":                                       {Procs: []api.Proc{{Name: "p"}}},
		"procedure p(int a) { }":                                  {Procs: []api.Proc{{Name: "p", Params: params(ab)}}},
		"procedure p(int a, R c) returns (R c) { }":               {Procs: []api.Proc{{Name: "p", Params: params(ab, cR), Result: cR}}},
		"procedure p() returns (int a) { }":                       {Procs: []api.Proc{{Name: "p", Result: ab}}},
		"procedure p() requires emp ensures a == 1 { }":           {Procs: []api.Proc{{Name: "p", Contract: true, Requires: emp, Ensures: one}}},
		"procedure p() requires a==1||emp ensures emp||emp { }":   {Procs: []api.Proc{{Name: "p", Contract: true, Requires: append(one, emp...), Ensures: append(emp, emp...)}}},
		"procedure p() logical (R c) requires emp ensures emp{ }": {Procs: []api.Proc{{Name: "p", Contract: true, Logical: params(cR), Requires: emp, Ensures: emp}}},
		"procedure p(R c) returns (R c) logical (R c, int a) requires a == 1 ensures emp { R c; int a; }": {Procs: []api.Proc{{Name: "p", Params: params(cR), Result: cR, Contract: true, Logical: params(cR, ab), Requires: one, Ensures: emp, Locals: params(cR, ab)}}},
		"procedure p() returns (int a) requires emp ensures emp { int a; }":                               {Procs: []api.Proc{{Name: "p", Result: ab, Contract: true, Requires: emp, Ensures: emp, Locals: params(ab)}}},
	} {
		for i := range want.Procs {
			want.Procs[i].Pos = at(1, 1)
		}
		checkProgram(t, s, want)
		if s != "" {
			checkProgram(t, strings.ReplaceAll(s, " ", "\n#\n\t"), want)
		}
	}
}

func TestItemsInAnyOrder(t *testing.T) {
	emp := []api.Formula{{}}
	checkProgram(t, `procedure p() { } procedure q() { x = 1;
		free x; }
lemma l(): emp ==> emp; lock L invariant emp; global int a; record R { int a; } predicate d(int a) = emp;
  procedure r() { }
predicate e(R a) = emp; record S { R a; } lemma m(): emp ==> emp; global R b; lock M invariant emp; record R { int a; }`,
		api.Program{
			Records: []api.Record{{Name: "R", Fields: params(param("int", "a"))}, {Name: "S", Fields: params(param("R", "a"))}, {Name: "R", Fields: params(param("int", "a"))}},
			Globals: params(param("int", "a"), param("R", "b")),
			Locks:   []api.Lock{{Name: "L", Inv: emp}, {Name: "M", Inv: emp}},
			Defs:    []api.Def{{Name: "d", Params: params(param("int", "a")), Cases: emp}, {Name: "e", Params: params(param("R", "a")), Cases: emp}},
			Lemmas:  []api.Lemma{{Name: "l"}, {Name: "m"}},
			Procs: []api.Proc{{Name: "p", Pos: at(1, 1)}, {Name: "q", Pos: at(1, 19), Body: []api.Stmt{
				{Kind: api.Assign, Pos: at(1, 35), Name: "x", E: num(1)}, {Kind: api.Free, Pos: at(2, 3), Name: "x"}}}, {Name: "r", Pos: at(4, 3)}},
		})
}

func TestItemErrors(t *testing.T) {
	for _, c := range []struct {
		s      string
		column int
	}{
		{"x", 1}, {"x = 1;", 1}, {"int x;", 1}, {"emp", 1}, {"{ }", 1}, {";", 1}, {"record R { int a; };", 20}, {"record R { int a; } x", 21}, {"free x;", 1},
		{"record { int a; }", 8}, {"record int { int a; }", 8}, {"record R ( int a; }", 10}, {"record R { int a }", 18}, {"record R { int a, int b; }", 17}, {"record R { a; }", 13}, {"record R { int int; }", 16}, {"record R { int a; int }", 23}, {"record R { 1 a; }", 12}, {"record R { int a; ) ", 19}, {"record R { int 1; }", 16}, {"record 1", 8}, {"record R;", 9},
		{"global a;", 9}, {"global int a, int b;", 13}, {"global int a = 1;", 14}, {"global int a }", 14}, {"global int int;", 12}, {"global null a;", 8},
		{"lock L;", 7}, {"lock L emp;", 8}, {"lock L invariant;", 17}, {"lock L invariant emp }", 22}, {"lock L invariant a;", 19}, {"lock invariant emp;", 6}, {"lock L invariant emp ||;", 24}, {"lock L invariant { emp };", 18}, {"lock L() invariant emp;", 7}, {"lock L invariant emp ==> emp;", 22},
		{"predicate p() = emp;", 13}, {"predicate p = emp;", 13}, {"predicate p(a) = emp;", 14}, {"predicate p(int a) emp;", 20}, {"predicate p(int a) == emp;", 20}, {"predicate p(int a) = ;", 22}, {"predicate p(int a,) = emp;", 19}, {"predicate p(int a int b) = emp;", 19}, {"predicate (int a) = emp;", 11}, {"predicate p(int a) = emp", 0}, {"predicate p(int a) = emp }", 26}, {"predicate p(int a) = emp && emp;", 26}, {"predicate p(int a);", 19}, {"predicate int(int a) = emp;", 11},
		{"lemma l: emp ==> emp;", 8}, {"lemma l() emp ==> emp;", 11}, {"lemma l(): emp;", 15}, {"lemma l(): emp || emp ==> emp;", 16}, {"lemma l(): emp ==> emp || emp;", 24}, {"lemma l(): emp -> emp;", 16}, {"lemma l(): ==> emp;", 12}, {"lemma l(): emp ==> ;", 20}, {"lemma l(): emp ==> emp ==> emp;", 24}, {"lemma l(,): emp ==> emp;", 9}, {"lemma l(int): emp ==> emp;", 12}, {"lemma (): emp ==> emp;", 7}, {"lemma l() = emp ==> emp;", 11}, {"lemma l(): a ==> emp;", 14}, {"lemma l(int a;): emp ==> emp;", 14},
		{"procedure { }", 11}, {"procedure p { }", 13}, {"procedure p(,) { }", 13}, {"procedure p(int) { }", 16}, {"procedure p(int a;) { }", 18}, {"procedure p();", 14}, {"procedure p() } ", 15}, {"procedure int() { }", 11}, {"procedure p(int a, ) { }", 20}, {"procedure p(a) { }", 14}, {"procedure p() { } }", 19}, {"procedure p() { };", 18},
		{"procedure p() returns { }", 23}, {"procedure p() returns int a { }", 23}, {"procedure p() returns () { }", 24}, {"procedure p() returns (int) { }", 27}, {"procedure p() returns (int a, int b) { }", 29}, {"procedure p() returns (int a) returns (int b) { }", 31}, {"procedure p() returns (a) { }", 25},
		{"procedure p() logical (int a) { }", 31}, {"procedure p() logical () requires emp ensures emp { }", 24}, {"procedure p() logical requires emp ensures emp { }", 23}, {"procedure p() logical (int a) ensures emp { }", 31}, {"procedure p() logical (int a) logical (int b) requires emp ensures emp { }", 31}, {"procedure p() requires emp logical (int a) ensures emp { }", 28}, {"procedure p() logical (int a) returns (int b) { }", 31},
		{"procedure p() requires emp { }", 28}, {"procedure p() ensures emp { }", 15}, {"procedure p() ensures emp requires emp { }", 15}, {"procedure p() requires ensures emp { }", 24}, {"procedure p() requires emp ensures { }", 36}, {"procedure p() requires emp; ensures emp { }", 27}, {"procedure p() requires emp ensures emp; { }", 39}, {"procedure p() requires emp ensures emp ensures emp { }", 40}, {"procedure p() requires emp requires emp { }", 28}, {"procedure p() requires emp returns (int a) ensures emp { }", 28}, {"procedure p() requires emp ensures emp returns (int a) { }", 40}, {"procedure p() invariant emp { }", 15}, {"procedure p() requires a < b && b < a ensures emp { }", 30},
	} {
		if c.column == 0 {
			checkError(t, "program", c.s, 0, 0, api.ErrEnd)
		} else {
			checkError(t, "program", c.s, 1, c.column, api.ErrForm)
		}
	}
	checkError(t, "program", "global int a;\n\nrecord R {\n\tint a\n\tint b; }", 5, 2, api.ErrForm)
}

func TestTextsThatEnd(t *testing.T) {
	for _, s := range []string{"record", "record R", "record R {", "record R { int", "record R { int a", "record R { int a;", "global", "global int", "global int a", "lock", "lock L", "lock L invariant", "lock L invariant emp", "lock L invariant emp ||",
		"predicate", "predicate p", "predicate p(", "predicate p(int", "predicate p(int a", "predicate p(int a,", "predicate p(int a)", "predicate p(int a) =", "predicate p(int a) = emp", "lemma", "lemma l", "lemma l(", "lemma l()", "lemma l():", "lemma l(): emp", "lemma l(): emp ==>", "lemma l(): emp ==> emp",
		"procedure", "procedure p", "procedure p(", "procedure p(int", "procedure p()", "procedure p() returns", "procedure p() returns (", "procedure p() returns (int", "procedure p() returns (int a", "procedure p() returns (int a)", "procedure p() logical", "procedure p() logical (", "procedure p() logical (int a", "procedure p() logical (int a)",
		"procedure p() requires", "procedure p() requires emp", "procedure p() requires emp ensures", "procedure p() requires emp ensures emp", head, head + "int", head + "int a", head + "R", head + "R a", head + "R a;", head + "a =", head + "a = new", head + "a = new R", head + "a = new R;", head + "a = input", head + "a = b", head + "a = b.", head + "a = b.f",
		head + "a = f(", head + "a = f()", head + "f(", head + "f(1", head + "f(1,", head + "f(1)", head + "f();", head + "a.", head + "a.f", head + "a.f =", head + "a.f = 1", head + "free", head + "free a", head + "if", head + "if (", head + "if (a < b", head + "if (a < b)", head + "if (a < b) {", head + "if (a < b) { }", head + "if (a < b) { } else", head + "if (a < b) { } else {",
		head + "if (a < b) { } else { }", head + "while", head + "while (", head + "while (a < b)", head + "while (a < b) invariant", head + "while (a < b) invariant emp", head + "while (a < b) {", head + "while (a < b) { }", head + "assert", head + "assert a < b", head + "assert a < b;", head + "with", head + "with L", head + "with L {", head + "with L { }",
		head + "par", head + "par {", head + "par { f", head + "par { f(", head + "par { f()", head + "par { f();", head + "par { a =", head + "par { a = f", head + "par { f(); }", head + "par { f(); } {", head + "par { f(); } { g()", head + "par { f(); } { g();", head + "par { f(); } { g(); }"} {
		checkError(t, "program", s, 0, 0, api.ErrEnd)
		checkError(t, "program", "record R { int a; }\n"+s+" # }", 0, 0, api.ErrEnd)
		checkError(t, "program", s+" ?", 1, len(s)+2, api.ErrForm)
		checkError(t, "program", s+" record", 1, len(s)+2, api.ErrForm)
	}
}

func TestGapsChangeOnlyPlaces(t *testing.T) {
	p, _, e := parse.Program(everything)
	if e != api.OK {
		t.Fatal(e)
	}
	for _, gap := range []string{"  ", "\t", "\n", "\r\n", " # } ; 01 @\n"} {
		q, _, e := parse.Program(gap + strings.ReplaceAll(strings.ReplaceAll(everything, "\n", " "), " ", gap) + gap)
		if e != api.OK || !tree.EqualProgram(p, q) {
			t.Errorf("%q: %d", gap, e)
		}
	}
}
