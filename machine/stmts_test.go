package machine_test

import (
	"math"
	"strconv"
	"strings"
	"testing"

	"sepal/api"
)

const (
	list  = "2:Node(5) 5:Node(0)"
	pairs = "5:Pair(4,0,6) 20:Pair(7,5,-9)" // y is 20
)

func TestAssign(t *testing.T) {
	checkBodies(t, []example{
		{"r = 3;", from(0, 0, list), ended(3, list, "1")},
		{"r = n;", from(0, -8, ""), ended(-8, "", "1")},
		{"r = g + n;", from(0, 2, ""), ended(9, "", "1")},
		{"r = 3;\nr = r - 2 * n;", from(0, 4, ""), ended(-5, "", "1 2")},
		{"r = r + 1;\nr = r + 1;\nr = r + 1;", from(0, 0, ""), ended(3, "", "1 2 3")},
		{"i = 4;\nj = i;\ni = 5;\nr = 10 * j + i;", from(0, 0, ""), ended(45, "", "1 2 3 4")},
		// all locals and the result are 0 at first
		{"if (t == null && u == null && p == null && q == null && i == 0 && j == 0 && r == 0) {\nr = 1; }", from(3, 3, ""), ended(1, "", "1 2")},
		{"t = x;\nu = t;\nt = null;\nif (u == x && t == null) {\nr = 1; }", from(77, 0, ""), ended(1, "", "1 2 3 4 5")},
		// the bounds, and one beyond them
		{"r = n + 1;", from(0, api.MaxInt-1, ""), ended(api.MaxInt, "", "1")},
		{"r = n - 1;", from(0, 1-api.MaxInt, ""), ended(-api.MaxInt, "", "1")},
		{"r = 2 * n;", from(0, api.MaxInt/2, ""), ended(api.MaxInt, "", "1")},
		{"r = -2 * n;", from(0, api.MaxInt/2, ""), ended(-api.MaxInt, "", "1")},
		{"@r = n + 1;", from(0, api.MaxInt, list), limited(api.ErrBig, 0, list, "")},
		{"@r = n - 1;", from(0, -api.MaxInt, ""), limited(api.ErrBig, 0, "", "")},
		{"@r = 2 * n;", from(0, api.MaxInt/2+1, ""), limited(api.ErrBig, 0, "", "")},
		{"r = 6;\n@r = n + 1 - 1;\nr = 7;", from(0, api.MaxInt, ""), limited(api.ErrBig, 6, "", "1")},
	})
}

func TestLoad(t *testing.T) {
	other := "2:Node(5) 5:Pair(1,2,3)"
	checkBodies(t, []example{
		{"t = x.next;\nu = t.next;\nif (u == null && t != null && t != x) {\nr = 1; }", from(2, 0, list), ended(1, list, "1 2 3 4")},
		{"t = x.next;\nt = t.next;\n@t = t.next;", from(2, 0, list), failed(api.ErrNull, 0, list, "1 2")},
		// each field of a record
		{"r = y.a;", from(0, 0, pairs), ended(7, pairs, "1")},
		{"r = y.c;", from(0, 0, pairs), ended(-9, pairs, "1")},
		{"p = y.b;\nr = p.c;\nq = p.b;\nif (q == null) {\nr = r + 10; }", from(0, 0, pairs), ended(16, pairs, "1 2 3 4 5")},
		// the variable stays as it was
		{"r = 4;\n@r = p.a;\nr = 5;", from(0, 0, list), failed(api.ErrNull, 4, list, "1")},
		{"r = 4;\n@r = y.a;", from(0, 0, list), failed(api.ErrDead, 4, list, "1")},
		{"r = 4;\n@r = y.a;", from(0, 0, "20:Node(3)"), failed(api.ErrRecord, 4, "20:Node(3)", "1")},
		{"@t = x.next;", from(0, 0, list), failed(api.ErrNull, 0, list, "")},
		{"@t = x.next;", from(3, 0, list), failed(api.ErrDead, 0, list, "")},
		{"@t = x.next;", from(6, 0, list), failed(api.ErrDead, 0, list, "")},
		{"@t = x.next;", from(1, 0, ""), failed(api.ErrDead, 0, "", "")},
		{"@t = x.next;", from(-2, 0, list), failed(api.ErrDead, 0, list, "")},
		{"@t = x.next;", from(api.MaxInt, 0, list), failed(api.ErrDead, 0, list, "")},
		{"t = x.next;\n@u = t.next;", from(2, 0, other), failed(api.ErrRecord, 0, other, "1")},
	})
}

func TestSave(t *testing.T) {
	checkBodies(t, []example{
		{"x.next = null;", from(2, 0, list), ended(0, "2:Node(0) 5:Node(0)", "1")},
		{"t = x.next;\nt.next = x;", from(2, 0, list), ended(0, "2:Node(5) 5:Node(2)", "1 2")},
		{"x.next = x;\nt = x.next;\nt.next = null;", from(5, 0, list), ended(0, list, "1 2 3")},
		{"x.next = t;", from(2, 0, "2:Node(-8)"), ended(0, "2:Node(0)", "1")},
		// each field of a record
		{"y.a = n;", from(0, 8, pairs), ended(0, "5:Pair(4,0,6) 20:Pair(8,5,-9)", "1")},
		{"y.b = y;", from(0, 8, pairs), ended(0, "5:Pair(4,0,6) 20:Pair(7,20,-9)", "1")},
		{"y.c = 2 * n - 1;", from(0, 8, pairs), ended(0, "5:Pair(4,0,6) 20:Pair(7,5,15)", "1")},
		{"y.a = n;\np = y.b;\np.c = n + 1;\nr = y.a;", from(0, -api.MaxInt, pairs), ended(-api.MaxInt, "5:Pair(4,0,-1048575) 20:Pair(-1048576,5,-9)", "1 2 3 4")},
		// the memory stays as it was
		{"@x.next = null;", from(0, 0, list), failed(api.ErrNull, 0, list, "")},
		{"@x.next = null;", from(3, 0, list), failed(api.ErrDead, 0, list, "")},
		{"@x.next = null;", from(-5, 0, list), failed(api.ErrDead, 0, list, "")},
		{"@x.next = null;", from(20, 0, pairs), failed(api.ErrRecord, 0, pairs, "")},
		{"@y.a = 1;", from(0, 0, "20:Node(3)"), failed(api.ErrRecord, 0, "20:Node(3)", "")},
		{"y.a = 1;\n@y.c = n + n;\ny.b = null;", from(0, api.MaxInt, pairs), limited(api.ErrBig, 0, "5:Pair(4,0,6) 20:Pair(1,5,-9)", "1")},
		// the value is computed first
		{"@p.a = n + 1;", from(0, api.MaxInt, pairs), limited(api.ErrBig, 0, pairs, "")},
		{"@y.a = n + 1;", from(0, api.MaxInt, list), limited(api.ErrBig, 0, list, "")},
		{"@y.a = n + 1;", from(0, api.MaxInt, "20:Node(3)"), limited(api.ErrBig, 0, "20:Node(3)", "")},
	})
}

func TestNew(t *testing.T) {
	checkBodies(t, []example{
		{"t = new Node;", from(0, 0, ""), ended(0, "1:Node(0)", "1")},
		{"p = new Pair;", from(0, 0, list), ended(0, "1:Pair(0,0,0) 2:Node(5) 5:Node(0)", "1")},
		{"t = new Node;\nt.next = t;\nu = new Node;\nu.next = t;", from(0, 0, list), ended(0, "1:Node(1) 2:Node(5) 3:Node(1) 5:Node(0)", "1 2 3 4")},
		// the choices, and 0 behind the last one
		{"t = new Node;\nt = new Node;\nt = new Node;", withChoices(from(0, 0, list), 3, 1), ended(0, "1:Node(0) 2:Node(5) 3:Node(0) 5:Node(0) 6:Node(0)", "1 2 3")},
		{"p = new Pair;\np.a = 1;\np = new Pair;\np.a = 2;", withChoices(from(0, 0, "")), ended(0, "1:Pair(1,0,0) 2:Pair(2,0,0)", "1 2 3 4")},
		{"p = new Pair;\np.a = 1;\np = new Pair;\np.a = 2;\np = new Pair;\np.a = 3;", withChoices(from(0, 0, ""), 2, 2, 7, 1), ended(0, "3:Pair(1,0,0) 4:Pair(2,0,0) 6:Pair(3,0,0)", "1 2 3 4 5 6")},
		{"t = new Node;", withChoices(from(0, 0, list), 2), ended(0, "2:Node(5) 4:Node(0) 5:Node(0)", "1")},
		{"t = new Node;", withChoices(from(0, 0, list), 4), ended(0, "1:Node(0) 2:Node(5) 5:Node(0)", "1")},
		{"t = new Node;", withChoices(from(0, 0, list), math.MaxInt), ended(0, "2:Node(5) 5:Node(0) 6:Node(0)", "1")},
		// an address can be allocated again
		{"t = new Node;\nfree t;\np = new Pair;\np.a = 4;", from(0, 0, list), ended(0, "1:Pair(4,0,0) 2:Node(5) 5:Node(0)", "1 2 3 4")},
		{"t = new Node;\nfree t;\np = new Pair;\n@u = t.next;", from(0, 0, ""), failed(api.ErrRecord, 0, "1:Pair(0,0,0)", "1 2 3")},
	})
}

// row returns the text of a memory with this many blocks at the first addresses.
func row(n int) string {
	var texts []string
	for i := range n {
		texts = append(texts, strconv.Itoa(i+1)+":Node("+strconv.Itoa(i)+")")
	}
	return strings.Join(texts, " ")
}

func TestNewFull(t *testing.T) {
	checkBodies(t, []example{
		{"t = new Node;\nt.next = x;", from(99, 0, row(api.MaxBlocks-1)), ended(0, row(api.MaxBlocks), "1 2")},
		{"t = new Node;\nt.next = x;\n@u = new Node;\nu = x;", from(99, 0, row(api.MaxBlocks-1)), limited(api.ErrFull, 0, row(api.MaxBlocks), "1 2")},
		{"r = 5;\n@t = new Node;", from(1, 0, row(api.MaxBlocks)), limited(api.ErrFull, 5, row(api.MaxBlocks), "1")},
		{"t = x;\n@t = new Node;", withFuel(from(1, 0, row(api.MaxBlocks)), 2), limited(api.ErrFull, 0, row(api.MaxBlocks), "1")},
		{"free x;\nt = new Node;\nt.next = x;", from(1, 0, row(api.MaxBlocks)), ended(0, "1:Node(1)"+strings.TrimPrefix(row(api.MaxBlocks), "1:Node(0)"), "1 2 3")},
	})
}

func TestFree(t *testing.T) {
	checkBodies(t, []example{
		{"free x;", from(2, 0, list), ended(0, "5:Node(0)", "1")},
		{"free x;", from(5, 0, list), ended(0, "2:Node(5)", "1")},
		{"t = x.next;\nfree x;\nfree t;", from(2, 0, list), ended(0, "", "1 2 3")},
		{"free y;", from(0, 0, "1:Node(20) 20:Pair(1,2,3) 30:Node(20)"), ended(0, "1:Node(20) 30:Node(20)", "1")},
		{"free x;", from(20, 0, pairs), ended(0, "5:Pair(4,0,6)", "1")}, // of another record
		{"@free x;", from(0, 0, list), failed(api.ErrNull, 0, list, "")},
		{"@free x;", from(3, 0, list), failed(api.ErrDead, 0, list, "")},
		{"@free x;", from(-5, 0, list), failed(api.ErrDead, 0, list, "")},
		{"free x;\n@free x;", from(2, 0, list), failed(api.ErrDead, 0, "5:Node(0)", "1")},
		{"t = x;\nfree x;\n@u = t.next;", from(2, 0, list), failed(api.ErrDead, 0, "5:Node(0)", "1 2")},
		{"t = x.next;\nfree t;\n@t.next = x;", from(2, 0, list), failed(api.ErrDead, 0, "2:Node(5)", "1 2")},
		{"free x;\nif (x != null) {\nr = 1; }", from(2, 0, list), ended(1, "5:Node(0)", "1 2 3")}, // the variable keeps the address
	})
}

func TestInput(t *testing.T) {
	three := "i = input;\nj = input;\nr = input;\nr = 100 * i + 10 * j + r;"
	checkBodies(t, []example{
		{"r = input;", withInputs(from(0, 0, list), 5), ended(5, list, "1")},
		{"r = input;", withInputs(from(0, 0, ""), -api.MaxInt), ended(-api.MaxInt, "", "1")},
		{"r = input;", withInputs(from(0, 0, ""), api.MaxInt), ended(api.MaxInt, "", "1")},
		{three, withInputs(from(0, 0, ""), 1, 2, 3), ended(123, "", "1 2 3 4")},
		{three, withInputs(from(0, 0, ""), 1, 2, 3, 4), ended(123, "", "1 2 3 4")},
		{three, withInputs(from(0, 0, ""), 1, 2), ended(120, "", "1 2 3 4")},
		{three, withInputs(from(0, 0, ""), 1), ended(100, "", "1 2 3 4")},
		{three, from(0, 0, ""), ended(0, "", "1 2 3 4")},
		{"r = 5;\nr = input;", from(0, 0, ""), ended(0, "", "1 2")},
		// inputs and choices are counted apart
		{"i = input;\np = new Pair;\np.a = i;\ni = input;\np = new Pair;\np.a = i;", withChoices(withInputs(from(0, 0, ""), 8, 9), 1, 0), ended(0, "1:Pair(9,0,0) 2:Pair(8,0,0)", "1 2 3 4 5 6")},
	})
}

func TestAssert(t *testing.T) {
	checkBodies(t, []example{
		{"assert n == 4;\nr = 1;", from(0, 4, list), ended(1, list, "1 2")},
		{"r = 3;\n@assert n == 4;\nr = 1;", from(0, 5, list), failed(api.ErrAssert, 3, list, "1")},
		{"assert !(n == 4) || n < 5 && x != null;", from(1, 4, ""), ended(0, "", "1")},
		{"@assert !(n == 4) || n < 5 && x != null;", from(0, 4, ""), failed(api.ErrAssert, 0, "", "")},
		{"@assert n + 1 == 0;", from(0, api.MaxInt, list), limited(api.ErrBig, 0, list, "")},
		{"@assert 0 == n - 2;", from(0, -api.MaxInt, ""), limited(api.ErrBig, 0, "", "")},
		{"@assert !(n + 1 == 0);", from(0, api.MaxInt, ""), limited(api.ErrBig, 0, "", "")},
		// what is not computed is not too big
		{"assert 0 < n || n + 1 == 0;", from(0, api.MaxInt, ""), ended(0, "", "1")},
		{"@assert n < 0 && n + 1 == 0;", from(0, api.MaxInt, ""), failed(api.ErrAssert, 0, "", "")},
		{"@assert n + 1 == 0 || 0 < n;", from(0, api.MaxInt, ""), limited(api.ErrBig, 0, "", "")},
	})
}

func TestIf(t *testing.T) {
	both := "if (n < 3) {\nr = 1;\nr = r + 1; } else {\nr = 5; }\nr = 10 * r;"
	nested := "if (n < 3) { if (n < 2) {\nr = 1; } else {\nr = 2; }\nr = r + 10; } else { if (n < 4) { } else {\nr = 4; } }\nr = r + 100;"
	checkBodies(t, []example{
		{both, from(0, 2, list), ended(20, list, "1 2 3 5")},
		{both, from(0, 3, list), ended(50, list, "1 4 5")},
		{"if (n == 1) {\nr = 1; }\nr = r + 2;", from(0, 1, ""), ended(3, "", "1 2 3")},
		{"if (n == 1) {\nr = 1; }\nr = r + 2;", from(0, 0, ""), ended(2, "", "1 3")},
		{"if (n == 1) { } else {\nr = 1; }", from(0, 1, ""), ended(0, "", "1")},
		{"if (n == 1) { }", from(0, 0, ""), ended(0, "", "1")},
		{nested, from(0, 1, ""), ended(111, "", "1 1 2 4 6")},
		{nested, from(0, 2, ""), ended(112, "", "1 1 3 4 6")},
		{nested, from(0, 3, ""), ended(100, "", "1 4 6")},
		{nested, from(0, 4, ""), ended(104, "", "1 4 5 6")},
		{"r = 3;\n@if (n + 1 == 0) {\nr = 1; } else {\nr = 2; }\nr = 4;", from(0, api.MaxInt, list), limited(api.ErrBig, 3, list, "1")},
		{"if (n == 0 && n + 1 == 0) {\nr = 1; } else {\nr = 2; }", from(0, api.MaxInt, ""), ended(2, "", "1 3")},
	})
}

func TestWhile(t *testing.T) {
	count := "while (i < n) {\nr = r + i;\ni = i + 1; }\nr = r + 100;"
	nested := "while (i < n) { j = 0;\nwhile (j < i) {\nr = r + 1;\nj = j + 1; }\ni = i + 1; }"
	last := "while (i < n) { i = i + 1;\nif (i == 2) {\nr = i; } }"
	checkBodies(t, []example{
		{count, from(0, 0, list), ended(100, list, "1 4")},
		{count, from(0, 1, ""), ended(100, "", "1 2 3 1 4")},
		{count, from(0, 3, ""), ended(103, "", "1 2 3 1 2 3 1 2 3 1 4")},
		{nested, from(0, 2, ""), ended(1, "", "1 1 2 5 1 1 2 3 4 2 5 1")},
		{last, from(0, 2, ""), ended(2, "", "1 1 2 1 1 2 3 1")},
		{"while (n < 0) { }", from(0, 0, ""), ended(0, "", "1")},
		{"while (n < 0) invariant x == null & emp { }\nr = 1;", from(1, 0, list), ended(1, list, "1 2")}, // the invariant is not looked at
		{"while (x == null) { }", withFuel(from(0, 0, ""), 4), limited(api.ErrFull, 0, "", "1 1 1 1")},
		{"r = n;\n@while (r + 1 <= n + 1) {\nr = r + 1; }", from(0, api.MaxInt-1, list), limited(api.ErrBig, api.MaxInt, list, "1 2 3")},
		{"while (r != 3) {\n@r = r + n; }", from(0, api.MaxInt/2, ""), limited(api.ErrBig, api.MaxInt, "", "1 2 1 2 1")},
		{"t = x;\nwhile (t != null) {\nu = t.next;\nfree t;\nt = u;\nr = r + 1; }", from(2, 0, list), ended(2, "", "1 2 3 4 5 6 2 3 4 5 6 2")},
	})
}

// TestAfterError demands that neither another fuel nor other statements behind it change how a step fails.
func TestAfterError(t *testing.T) {
	for _, c := range []struct {
		stmt string
		e    api.Errno
	}{{"@t = x.next;", api.ErrNull}, {"@free x;", api.ErrNull}, {"@x.next = t;", api.ErrNull}, {"@assert r == 0;", api.ErrAssert}, {"@i = n + 1;", api.ErrBig}} {
		end := failed(c.e, 1, list, "1")
		if c.e == api.ErrBig {
			end = limited(c.e, 1, list, "1")
		}
		s := from(0, api.MaxInt, list)
		checkBodies(t, []example{
			{"r = 1;\n" + c.stmt, s, end},
			{"r = 1;\n" + c.stmt + "\nr = 2; t = new Node;", s, end},
			{"r = 1;\n" + c.stmt, withFuel(s, 2), end},
		})
		checkRun(t, program("r = 1;\n"+strings.TrimPrefix(c.stmt, "@")), withFuel(s, 1), limited(api.ErrFull, 1, list, "1"))
	}
}
