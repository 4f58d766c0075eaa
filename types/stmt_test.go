package types_test

import (
	"strings"
	"testing"

	"sepal/api"
)

// within returns a program with these statements in a procedure that has variables of every kind.
func within(statements string) string {
	return head + `global Cons g;
global int size;
lock L invariant emp;
procedure p(Cons x, int n) returns (int r) logical (int a, Cons b) requires emp ensures emp {
	Cons t;
	int k;
	Node m;
` + statements + `
}
procedure q() { }
procedure make(Node y) returns (Node z) { }
`
}

// checkStatements demands that each of these texts, in which "@" marks a statement, has this fault: alone, and inside of other statements with a fault behind it.
func checkStatements(t *testing.T, name string, e api.Errno, l ...string) {
	t.Helper()
	behind := "k = ww;"
	if e == api.OK {
		behind = "k = 3;"
	}
	for _, s := range l {
		checkFault(t, within(s), name, e)
		checkFault(t, within("k = 1; if (n == 0) { while (n < 3) { k = 2; with L { "+s+" } } } else { "+behind+" }"), name, e)
	}
}

func TestAssign(t *testing.T) {
	checkStatements(t, "", api.OK, "t = x;", "t = null;", "t = t; t = g; m = m;", "r = n + 1; k = size;", "k = 2 * (n - size) + -3;", "")
	checkStatements(t, "z", api.ErrNone, "@z = 1;", "@z = w;", "@z = a;", "@z = x + 1;", "t = x; @z = t;", "@k = z;", "@k = z + w;", "@k = z + a;", "@k = z + x;", "@k = 1 + 2 * (z - x);", "@t = z;")
	checkStatements(t, "x", api.ErrState, "@x = x;", "@x = w;", "@x = 1;")
	checkStatements(t, "g", api.ErrState, "@g = x;", "@g = g;")
	checkStatements(t, "a", api.ErrState, "@a = 1;", "@a = w;", "@a = null;", "@k = a;", "@k = n + a + w;", "@k = a + x;", "@t = a;", "@k = 2 * (a - x);")
	checkStatements(t, "b", api.ErrState, "@b = null;", "@t = b;", "@k = b;", "@k = b + 1;")
	checkStatements(t, "k", api.ErrType, "@k = x;", "@k = null;", "@k = m;")
	checkStatements(t, "r", api.ErrType, "@r = g;")
	checkStatements(t, "t", api.ErrType, "@t = 0;", "@t = n;", "@t = m;", "@t = n + 1;", "@t = 2 * 3;")
	checkStatements(t, "m", api.ErrType, "@m = t;", "m = null; @m = 1; m = m;")
	checkStatements(t, "", api.ErrType, "@k = k + x;", "@k = x + w;", "@k = x + a;", "@k = 2 * x;", "@k = 2 * null;", "@k = null - 1;", "@k = 1 - null;", "@t = x + 1;", "@t = k + x;", "@k = 1 + (2 + x) + w;", "@k = 2 * (3 * m);")
}

func TestLoad(t *testing.T) {
	checkStatements(t, "", api.OK, "k = x.head;", "t = x.tail;", "t = t.tail;", "r = g.head;", "m = m.next;")
	checkStatements(t, "z", api.ErrNone, "@z = x.head;", "@z = w.head;", "@z = x.next;", "@k = z.head;", "@t = z.head;")
	checkStatements(t, "n", api.ErrState, "@n = x.head;", "@n = w.head;")
	checkStatements(t, "b", api.ErrState, "@k = b.head;", "@k = b.next;", "@b = w.tail;")
	checkStatements(t, "a", api.ErrState, "@k = a.head;", "@a = x.head;")
	checkStatements(t, "n", api.ErrType, "@k = n.head;", "@k = n.next;", "@t = n.head;")
	checkStatements(t, "next", api.ErrNone, "@k = x.next;", "@m = x.next;")
	checkStatements(t, "head", api.ErrNone, "@k = m.head;")
	checkStatements(t, "Cons", api.ErrNone, "@k = x.Cons;")
	checkStatements(t, "k", api.ErrType, "@k = x.tail;", "@k = m.next;")
	checkStatements(t, "t", api.ErrType, "@t = x.head;", "@t = m.next;")
}

func TestSave(t *testing.T) {
	checkStatements(t, "", api.OK, "x.head = n;", "x.tail = null;", "x.tail = x;", "g.head = 1; g.tail = t;", "m.next = m; m.next = null;", "t.head = 2 * k - size;")
	checkStatements(t, "z", api.ErrNone, "@z.head = 1;", "@z.next = w;", "@x.head = z;", "@x.head = z + x;", "@x.tail = z;")
	checkStatements(t, "b", api.ErrState, "@b.head = w;", "@b.next = 1;", "@x.tail = b;", "@x.head = b;")
	checkStatements(t, "a", api.ErrState, "@a.head = w;", "@x.head = a;", "@x.tail = 1 + a;")
	checkStatements(t, "n", api.ErrType, "@n.head = w;", "@n.next = 1;")
	checkStatements(t, "next", api.ErrNone, "@x.next = w;", "@x.next = x;")
	checkStatements(t, "tail", api.ErrNone, "@m.tail = null;")
	checkStatements(t, "head", api.ErrType, "@x.head = x;", "@x.head = null;")
	checkStatements(t, "tail", api.ErrType, "@x.tail = 0;", "@x.tail = m;", "@x.tail = n + 1;")
	checkStatements(t, "next", api.ErrType, "@m.next = t;")
	checkStatements(t, "", api.ErrType, "@x.head = 1 + x;", "@x.tail = x + 1;", "@x.head = x + w;")
}

func TestNewFreeInput(t *testing.T) {
	checkStatements(t, "", api.OK, "t = new Cons; m = new Node;", "free x; free g; free t; free m;", "k = input; r = input;")
	checkStatements(t, "List", api.ErrNone, "@t = new List;", "@z = new List;", "@x = new List;", "@k = new List;")
	checkStatements(t, "ls", api.ErrNone, "@t = new ls;")
	checkStatements(t, "z", api.ErrNone, "@z = new Node;", "@free z;", "@z = input;")
	checkStatements(t, "x", api.ErrState, "@x = new Cons;", "@x = new Node;", "@x = input;")
	checkStatements(t, "n", api.ErrState, "@n = input;", "@n = new Cons;")
	checkStatements(t, "a", api.ErrState, "@a = input;", "@free a;")
	checkStatements(t, "b", api.ErrState, "@b = new Cons;", "@free b;", "@b = input;")
	checkStatements(t, "size", api.ErrState, "@size = input;")
	checkStatements(t, "t", api.ErrType, "@t = new Node;", "@t = input;")
	checkStatements(t, "k", api.ErrType, "@k = new Cons;", "@free k;")
	checkStatements(t, "n", api.ErrType, "@free n;")
	checkStatements(t, "Cons", api.ErrNone, "@free Cons;")
}

func TestInvoke(t *testing.T) {
	checkStatements(t, "", api.OK, "p(null, 3); k = p(t, k); r = p(g, size + 1); q();", "m = make(null); make(m); q();")
	checkStatements(t, "z", api.ErrNone, "@z();", "@z(w);", "@k = z();", "@p(z, x);", "@p(z, w);", "@p(null, z);", "@z = p(x, n);", "@z = q();", "@z = make(m);", "@p(x, z + x);")
	checkStatements(t, "ls", api.ErrNone, "@ls(m, m);")
	checkStatements(t, "p", api.ErrRange, "@p(w);", "@p();", "@p(x, n, w);", "@z = p(x);")
	checkStatements(t, "q", api.ErrRange, "@q(w);", "@z = q(1);")
	checkStatements(t, "p", api.ErrType, "@p(n, w);", "@p(m, 1);", "@p(x, x);", "@p(x, null);", "@z = p(x, m);", "@p(1, 1);")
	checkStatements(t, "make", api.ErrType, "@make(x);", "@t = make(t);")
	checkStatements(t, "a", api.ErrState, "@p(x, a);", "@p(null, a - w);", "@a = p(x, n);", "@p(x, 2 * a);")
	checkStatements(t, "b", api.ErrState, "@p(b, w);", "@make(b);", "@b = q();")
	checkStatements(t, "n", api.ErrState, "@n = p(x, n);", "@n = make(m);")
	checkStatements(t, "", api.ErrType, "@p(x + 1, w);", "@p(x, 2 * null);")
	checkStatements(t, "k", api.ErrType, "@k = q();", "@k = make(m);")
	checkStatements(t, "t", api.ErrType, "@t = p(x, n);", "@t = make(m);", "@t = q();")
}

func TestPar(t *testing.T) {
	checkStatements(t, "", api.OK, "par { q(); } { q(); }", "par { k = p(x, n); } { r = p(x, n); }", "par { k = p(x, n); } { p(x, n); }", "par { q(); } { m = make(null); }", "par { k = p(x, k); } { m = make(m); }")
	checkStatements(t, "k", api.ErrTwice, "@par { k = p(x, n); } { k = p(t, k); }")
	checkStatements(t, "m", api.ErrTwice, "@par { m = make(m); } { m = make(m); }")
	checkStatements(t, "z", api.ErrNone, "@par { z(); } { w(); }", "@par { q(); } { z(w); }", "@par { k = p(x, n); } { k = z(); }", "@par { z = p(x, n); } { z = p(x, n); }", "@par { p(x, z); } { q(1); }")
	checkStatements(t, "q", api.ErrRange, "@par { q(1); } { p(1); }", "@par { q(); } { q(w); }")
	checkStatements(t, "t", api.ErrType, "@par { t = p(x, n); } { w(); }", "@par { q(); } { t = q(); }", "@par { t = q(); } { t = q(); }")
	checkStatements(t, "a", api.ErrState, "@par { p(x, a); } { w(); }", "@par { q(); } { a = p(x, n); }")
	checkStatements(t, "", api.ErrType, "@par { q(); } { p(x, x + 1); }")
}

func TestConditions(t *testing.T) {
	for _, form := range []string{"@assert %;", "@if (%) { z = w; } else { w = z; }", "@while (%) invariant z == w { z = w; }", "@while (%) { z = w; }"} {
		checkConditions(t, form)
	}
	checkStatements(t, "", api.OK, "assert x != null;", "assert x == x && null == x && null == null && null != null;", "if (n < 3 || r <= k - 1) { k = n; }", "while (!(x == t)) { t = x; } assert m != m && n != 1;")
}

// checkConditions puts conditions with a fault for the percent sign.
func checkConditions(t *testing.T, form string) {
	t.Helper()
	check := func(name string, e api.Errno, l ...string) {
		t.Helper()
		for _, c := range l {
			checkStatements(t, name, e, strings.Replace(form, "%", c, 1))
		}
	}
	check("u", api.ErrNone, "u == v", "u <= x", "x == u", "x < u", "n < u", "null == u", "n + u < v", "!(u == 1)", "n == n && u == x", "u == u && x == n", "!(n < 1) || u < 1 && x == n", "u < 1 || a < 1")
	check("a", api.ErrState, "a == u", "a == x", "x == a", "k < a", "1 == 2 + a", "!(n < a)", "n < 1 && (n < 2 || a < 3)", "a < 1 && u < 1")
	check("b", api.ErrState, "b == null", "x == b", "n < b", "b < b")
	check("", api.ErrType, "x < x", "x <= x", "null <= null", "n < null", "x < 1", "x == n", "n == x", "x == 0", "0 == x", "null == 0", "0 != null", "null != n", "x != m", "m == x", "x + 1 == u", "n < x - 1", "x == n && u == u", "!(x == n) || u == u", "n == n || !(x == m)")
}

func TestPlaces(t *testing.T) {
	checkStatements(t, "w", api.ErrNone, "k = 1;\n@k = w; k = v;", "if (n == 0) { k = 1; @k = w; k = 2; } else { k = v; }", "if (n == 0) { k = 1; } else {\n\t@k = w; } k = v;", "if (n == 0) { k = 1; } @k = w;",
		"while (n == 0) invariant emp { with L { } @k = w; } k = v;", "with L { if (n == 0) { } else { @k = w; } k = v; }", "with L { } @k = w;", "if (n == 0) { while (n == 1) { } } else { } @w = 1;")
}

func TestWith(t *testing.T) {
	checkStatements(t, "", api.OK, "with L { }", "with L { k = 1; with L { } }")
	checkStatements(t, "K", api.ErrNone, "@with K { }", "@with K { z = w; }", "with L { @with K { } }")
	checkStatements(t, "x", api.ErrNone, "@with x { z = w; }")
	checkStatements(t, "k", api.ErrType, "with L { @k = null; }")
}

func TestInvariants(t *testing.T) {
	checkStatements(t, "", api.OK, "while (k < 3) invariant a <= k & ls(m, null) || exists int d: x -> Cons(d, b) & r == size { k = 1; }",
		"while (k < 3) invariant b == g & a == n { k = k + 1; }", "while (k < 3) invariant exists int d: d == a & x -> Cons(d, t) { }")
	checkStatements(t, "z", api.ErrNone, "@while (k < 3) invariant z == 1 { k = w; }", "@while (k < 3) invariant emp || ls(z, w) { k = w; }", "@while (k < 3) invariant z(m) || w == 1 { }", "while (k < 3) invariant emp { @while (k < 4) invariant z == 1 { } }")
	checkStatements(t, "k", api.ErrTwice, "@while (k < 3) invariant exists int k: k == 1 { k = w; }")
	checkStatements(t, "a", api.ErrTwice, "@while (k < 3) invariant emp || exists int a: a == 1 { }")
	checkStatements(t, "d", api.ErrUnknown, "@while (k < 3) invariant exists int d: d <= a { k = w; }")
	checkStatements(t, "Cons", api.ErrRange, "@while (k < 3) invariant x == null || x -> Cons(n) & ls(w, w) { k = w; }")
	checkStatements(t, "", api.ErrType, "@while (k < 3) invariant a == b { k = w; }")
	checkStatements(t, "a", api.ErrState, "@while (k < a) invariant z == 1 { k = w; }", "while (k < 3) invariant a <= k { @k = a; }")
}
