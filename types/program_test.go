package types_test

import (
	"strings"
	"testing"

	"sepal/api"
	"sepal/types"
)

// richText is a program without a fault, in which no two things have the same name.
const richText = `record A { int a1; B a2; }
record B { A b1; int b2; }
record C { C c1; }
global A g1;
global B g2;
global int g3;
lock L1 invariant emp || g1 == null & g3 <= 2;
lock L2 invariant exists int i1: g1 -> A(i1, g2);
predicate P1(A x1, int x2) = x2 == 1 || exists int i2, B i3: x1 -> A(i2, i3);
predicate P2(C y1, C y2) = y1 == y2 || exists C i4: y1 != y2 & y1 -> C(i4) & P2(i4, y2);
lemma M1(int u1, C u2) : P2(u2, null) & u1 <= 3 ==> exists C i5: u1 < 4 & P2(u2, i5) & P2(i5, null);
lemma M2() : emp ==> 1 == 1;
procedure p1(A v1, int v2) returns (int v3) logical (int v4, C v5)
	requires P2(v5, null) & v2 == v4 || v2 < 0
	ensures v3 <= v4 & P2(v5, null)
{
	A v6;
	int v7;
	v7 = v2;
	if (v2 == v7 && v1 != null) {
		v6 = g1;
		while (v3 < 3) invariant v4 < 9 || exists int i6: v6 -> A(i6, null) & P2(v5, null) {
			v3 = v3 + 1;
			with L1 {
				v1.a1 = g3;
			}
		}
		v7 = input;
	} else {
		v6 = new A;
		v3 = v6.a1;
		free v6;
	}
	par { v3 = p1(v1, v2); } { v7 = p1(null, g3 - 1); }
	assert v3 <= v7;
}
procedure p2(C w1) returns (C w2) {
	C w3;
	w3 = w1;
	w2 = p2(w3);
	p1(null, 1);
}
`

// damage replaces a part of the rich text by another one; the fault is at a place in the new text, or has none.
type damage struct {
	was, is, at, name string
	e                 api.Errno
}

// apply returns the damaged text.
func (d damage) apply(t *testing.T, text string) string {
	t.Helper()
	if strings.Count(text, d.was) != 1 {
		t.Fatalf("%q is there %d times", d.was, strings.Count(text, d.was))
	}
	return strings.Replace(text, d.was, d.is, 1)
}

func (d damage) fault(text string) []types.Fault {
	place := api.Pos{}
	if d.at != "" {
		place = placeAt(text, strings.Index(text, d.at))
	}
	return []types.Fault{{Pos: place, Name: d.name, E: d.e}}
}

// damages are in the order of their faults.
func damages() []damage {
	const p1, p2 = "procedure p1", "procedure p2"
	return []damage{
		{"record B {", "record A {", "", "A", api.ErrTwice},
		{"record C {", "record A {", "", "A", api.ErrTwice},
		{"global int g3", "global int g1", "", "g1", api.ErrTwice},
		{"lock L2", "lock L1", "", "L1", api.ErrTwice},
		{"predicate P2", "predicate P1", "", "P1", api.ErrTwice},
		{"lemma M2", "lemma M1", "", "M1", api.ErrTwice},
		{"procedure p2(", "procedure p1(", "", "p1", api.ErrTwice},
		{"int a1; B a2", "int a1; D1 a1", "", "a1", api.ErrTwice},
		{"int a1; B a2", "int a1; D2 a2", "", "D2", api.ErrNone},
		{"A b1; int", "A b2; int", "", "b2", api.ErrTwice},
		{"C c1", "P2 c1", "", "P2", api.ErrNone},
		{"global A", "global D3", "", "D3", api.ErrNone},
		{"global B", "global D4", "", "D4", api.ErrNone},
		{"g1 == null", "z1 == null", "", "z1", api.ErrNone},
		{"g1 -> A(i1, g2)", "g1 -> A(i1, g3)", "", "A", api.ErrType},
		{"(A x1, int x2)", "(D5 x1, int x1)", "", "x1", api.ErrTwice},
		{"(A x1, int x2)", "(int x1, D5 x2)", "", "D5", api.ErrNone},
		{"(A x1, int x2)", "(int x1, int x3)", "", "P1", api.ErrType},
		{"x2 == 1", "g3 == 1", "", "g3", api.ErrNone},
		{"x1 -> A(i2, i3)", "x1 -> A(0, i3)", "", "i2", api.ErrUnknown},
		{"(C y1, C y2)", "(C y1, D6 y2)", "", "D6", api.ErrNone},
		{"C i4:", "C y2:", "", "y2", api.ErrTwice},
		{"(int u1, C u2)", "(D7 u1, D7 u1)", "", "u1", api.ErrTwice},
		{"(int u1, C u2)", "(int u1, D7 u2)", "", "D7", api.ErrNone},
		{": P2(u2, null)", ": exists C u2: P2(u2, u3)", "", "M1", api.ErrForm},
		{"u1 <= 3", "u3 <= 3", "", "u3", api.ErrNone},
		{"u1 < 4", "u4 < 4", "", "u4", api.ErrNone},
		{"1 == 1", "1 == null", "", "", api.ErrType},
		{"(A v1, int v2)", "(A v1, D8 g3)", p1, "g3", api.ErrTwice},
		{"(A v1, int v2)", "(A v1, D8 v2)", p1, "D8", api.ErrNone},
		{"(int v4, C v5)", "(int v4, D9 v5)", p1, "D9", api.ErrNone},
		{"(int v3)", "(D10 v3)", p1, "D10", api.ErrNone},
		{"A v6", "D11 v6", p1, "D11", api.ErrNone},
		{"int v7", "D12 v7", p1, "D12", api.ErrNone},
		{"v2 == v4", "v7 == v4", p1, "v7", api.ErrNone},
		{"v2 < 0", "v3 < 0", p1, "v3", api.ErrNone},
		{"ensures v3 <=", "ensures v6 <=", p1, "v6", api.ErrNone},
		{"v7 = v2", "v7 = z2", "v7 = z2", "z2", api.ErrNone},
		{"v1 != null", "z3 != null", "if (", "z3", api.ErrNone},
		{"v6 = g1", "v6 = g2", "v6 = g2", "v6", api.ErrType},
		{"v3 < 3", "v1 < 3", "while", "", api.ErrType},
		{"v4 < 9", "z4 < 9", "while", "z4", api.ErrNone},
		{"exists int i6", "exists int v5", "while", "v5", api.ErrTwice},
		{"v3 = v3 + 1", "v3 = v3 + z5", "v3 = v3 + z5", "z5", api.ErrNone},
		{"with L1", "with L3", "with", "L3", api.ErrNone},
		{"v1.a1", "v1.b1", "v1.b1", "b1", api.ErrNone},
		{"v7 = input", "v2 = input", "v2 = input", "v2", api.ErrState},
		{"v6 = new A", "v6 = new B", "v6 = new B", "v6", api.ErrType},
		{"v3 = v6.a1", "v3 = v5.a1", "v3 = v5.a1", "v5", api.ErrState},
		{"free v6", "free v5", "free v5", "v5", api.ErrState},
		{"(null, g3 - 1)", "(null, g3 - z6)", "par", "z6", api.ErrNone},
		{"assert v3", "assert v4", "assert", "v4", api.ErrState},
		{"(C w1)", "(C w3)", p2, "w3", api.ErrTwice},
		{"w3 = w1", "w1 = w3", "w1 = w3", "w1", api.ErrState},
		{"w2 = p2(w3)", "w2 = p1(w3)", "w2 = p1(w3)", "p1", api.ErrRange},
	}
}

func TestFirstFault(t *testing.T) {
	checkFault(t, richText, "", api.OK)
	checkFault(t, "", "", api.OK)
	l := damages()
	for i, d := range l {
		text := d.apply(t, richText)
		checkFaults(t, text, parsed(t, text), d.fault(text))
		for _, other := range l[i+1:] {
			if other.was == d.was {
				continue
			}
			both := other.apply(t, text)
			checkFaults(t, both, parsed(t, both), d.fault(both))
		}
	}
}

// TestInvalidTrees demands that a tree that is not valid has this fault alone, whatever else is wrong.
func TestInvalidTrees(t *testing.T) {
	texts := []string{richText}
	for _, d := range damages() {
		texts = append(texts, d.apply(t, richText))
	}
	for _, text := range texts {
		for _, damage := range []func(p *api.Program){
			func(p *api.Program) { p.Records[1].Name = "int" },
			func(p *api.Program) { p.Globals[2].Name = "$a" },
			func(p *api.Program) { p.Locks[0].Inv = nil },
			func(p *api.Program) { p.Defs[1].Params = nil },
			func(p *api.Program) { p.Lemmas[1].Right.Pure = []api.Atom{{}} },
			func(p *api.Program) { p.Procs[1].Pos.Line = -1 },
			func(p *api.Program) { p.Procs[1].Contract = true },
			func(p *api.Program) { p.Procs[0].Body[0].E = num(api.MaxInt + 1) },
			func(p *api.Program) { p.Procs[0].Body[3].Kind = 99 },
			func(p *api.Program) { p.Procs[1].Body[2].Calls = nil },
			func(p *api.Program) { p.Procs[0].Result.Name = "" },
			func(p *api.Program) {
				p.Locks[0].Inv[0].Exists = []api.Param{param("int", "i"), param("int", "i")}
			},
		} {
			p := parsed(t, text)
			damage(&p)
			checkFaults(t, text, p, []types.Fault{{E: api.ErrArg}})
		}
	}
}

func TestItems(t *testing.T) {
	for _, c := range []struct {
		text, name string
		e          api.Errno
	}{
		// What is of another kind may have the same name, and a name may occur again elsewhere.
		{"record x { x x; } global x y; lock x invariant emp; predicate x(x x) = x == null; lemma x(x x) : x(x) ==> x(x); procedure x(x x) { x z; x(z); z = x.x; }", "", api.OK},
		{"record R { int a; int b; } record S { int a; int b; R r; S s; } procedure p(R a) { S b; } procedure q(R a) { S b; }", "", api.OK},
		{"record R { R a; } predicate p(R a, R b) = emp; predicate q(R a, R b) = emp; lemma m(R a) : emp ==> emp; lemma n(R a) : emp ==> emp;", "", api.OK},
		// The first name that occurs for the second time.
		{"record R { int a; } record S { int a; } record S { int a; } record R { int a; }", "S", api.ErrTwice},
		{"global int a; global int a; record R { int a; } record R { int a; }", "R", api.ErrTwice},
		{"procedure p() { } procedure p() { } lemma m() : emp ==> emp; lemma m() : emp ==> emp;", "m", api.ErrTwice},
		{"record R { int a; int b; int b; int a; }", "b", api.ErrTwice},
		{"record R { S a; T b; }", "S", api.ErrNone},
		{"record R { S a; int b; } record Q { int a; int a; }", "S", api.ErrNone},
		{"global int a; global R b; global S c;", "R", api.ErrNone},
		{"global int a; lock L invariant a == 1 || a == null || b == 1;", "", api.ErrType},
		// The first parameter of a predicate is a record; a lemma may have any ones, or none.
		{"predicate p(int a) = emp;", "p", api.ErrType},
		{"predicate p(int a, R b) = emp;", "R", api.ErrNone},
		{"predicate p(int a, int a) = emp;", "a", api.ErrTwice},
		{"predicate p(int a) = b == 1;", "p", api.ErrType},
		{head + "predicate p(Node a, int b) = b == c || emp;", "c", api.ErrNone},
		{head + "global int c; predicate p(Node a, int b) = emp || b == c;", "c", api.ErrNone},
		{"lemma m(int a) : a == 1 ==> exists int b: a == 1 & b == a;", "", api.OK},
		{"lemma m(int a) : exists int b: b == a ==> emp;", "m", api.ErrForm},
		{"lemma m(int a) : exists int a: b == a ==> b == 1;", "m", api.ErrForm},
		{"lemma m(int a) : b == 1 ==> c == 1;", "b", api.ErrNone},
		{"lemma m(int a) : a == 1 ==> c == 1;", "c", api.ErrNone},
		{"global int c; lemma m(int a) : a == 1 ==> c == 1;", "c", api.ErrNone},
		// What is defined later may be used.
		{"global R g; lock L invariant p(g); predicate p(R x) = emp; procedure a() { b(); with L { } } procedure b() { } record R { S s; } record S { R r; }", "", api.OK},
		{"predicate p(R x) = q(x); predicate q(R x) = p(x); record R { R r; }", "", api.OK},
	} {
		checkFault(t, c.text, c.name, c.e)
	}
}

func TestProcedures(t *testing.T) {
	for _, c := range []struct {
		text, name string
		e          api.Errno
	}{
		{"@procedure p(int a, int b) returns (int c) logical (int d, int e) requires emp ensures emp { int f; int a; int f; }", "a", api.ErrTwice},
		{"global int g;\n\n  @procedure p(int a) returns (int b) { int b; int a; int g; }", "b", api.ErrTwice},
		{"global int g; @procedure p() returns (int g) { int a; }", "g", api.ErrTwice},
		{"global int g; @procedure p() logical (int g) requires emp ensures emp { }", "g", api.ErrTwice},
		{"@procedure p(int a) logical (int a) requires emp ensures emp { }", "a", api.ErrTwice},
		{"@procedure p() returns (int a) logical (int a) requires emp ensures emp { }", "a", api.ErrTwice},
		{"@procedure p(int a) returns (int a) requires emp ensures emp { }", "a", api.ErrTwice},
		{"@procedure p(R1 a) returns (R2 b) logical (R3 c) requires emp ensures emp { R4 a; }", "a", api.ErrTwice},
		{"@procedure p(R1 a) returns (R2 b) logical (R3 c) requires x == 1 ensures x == 2 { R4 d; x = y; }", "R1", api.ErrNone},
		{"@procedure p(int a) returns (R2 b) logical (R3 c) requires x == 1 ensures x == 2 { R4 d; x = y; }", "R3", api.ErrNone},
		{"@procedure p(int a) returns (R2 b) logical (int c) requires x == 1 ensures x == 2 { R4 d; x = y; }", "R2", api.ErrNone},
		{"@procedure p(int a) returns (int b) logical (int c) requires x == 1 ensures x == 2 { R4 d; x = y; }", "R4", api.ErrNone},
		{"@procedure p(int a) returns (int b) logical (int c) requires x == 1 ensures y == 2 { int d; z = y; }", "x", api.ErrNone},
		{"@procedure p(int a) returns (int b) logical (int c) requires a == c ensures y == 2 { int d; z = y; }", "y", api.ErrNone},
		{"procedure p(int a) returns (int b) logical (int c) requires a == c ensures a == b & b == c { int d;\n@z = y; }", "z", api.ErrNone},
		// The precondition speaks of the globals, the parameters, and the logical variables, the postcondition of the result, too.
		{"global int g; procedure p(int a) returns (int b) logical (int c) requires g == a & c == a ensures g == a & c == b { int d; }", "", api.OK},
		{"@procedure p(int a) returns (int b) requires a == b ensures emp { }", "b", api.ErrNone},
		{"@procedure p(int a) requires a == b ensures emp { int b; }", "b", api.ErrNone},
		{"@procedure p(int a) requires emp ensures a == b { int b; }", "b", api.ErrNone},
		{"@procedure p(int a) requires emp || a == b ensures c == a { int b; }", "b", api.ErrNone},
		{"@procedure p(int a) requires exists int a: emp ensures emp { }", "a", api.ErrTwice},
		{"@procedure p(int a) returns (int b) requires exists int b: b == 1 ensures exists int b: b == 1 { int c; }", "b", api.ErrTwice},
		{"procedure p(int a) returns (int b) requires exists int b: b == 1 ensures exists int c: c == 1 { int c; }", "", api.OK},
		{"@procedure p(int a) logical (int b) requires exists int b: b == 1 ensures emp { int c; }", "b", api.ErrTwice},
		// The first procedure with a fault counts, whatever its fault is.
		{"procedure p() { @a = 1; } procedure q(R a) { }", "a", api.ErrNone},
		{"@procedure q(R a) { } procedure p() { a = 1; }", "R", api.ErrNone},
		{"procedure p() { } procedure q() { }\n\tprocedure r() { p(); @s(); }", "s", api.ErrNone},
	} {
		checkFault(t, c.text, c.name, c.e)
	}
}
