package machine_test

import (
	"strings"
	"testing"

	"sepal/api"
)

// callees are procedures that the bodies of these tests call.
const callees = `
procedure add(int a, int b) returns (int c) {
	c = a + 2 * b; # add
}
procedure none() { }
procedure next(Node n) returns (Node x) {
	x = n.next; # next
}
procedure fresh(int x) returns (int s) { int r; int i; Node t;
	if (t == null) { # fr1
		t = new Node; # fr2
		r = r + x; # fr3
	}
	i = i + g; # fr4
	s = 10 * s + r + i; # fr5
}
procedure fact(int n) returns (int r) { int m;
	if (n == 0) { # f1
		r = 1; # f2
	} else {
		m = fact(n - 1); # f3
		r = m + n; # f4
	}
}
procedure even(int n) returns (int r) {
	if (n == 0) { # e1
		r = 1; # e2
	} else {
		r = odd(n - 1); # e3
	}
}
procedure odd(int n) returns (int r) {
	if (n != 0) { # o1
		r = even(n - 1); # o2
	}
}
procedure drop(Node x) { Node t;
	if (x != null) { # d1
		t = x.next; # d2
		free x; # d3
		drop(t); # d4
	}
}
procedure bad(Node n) returns (int r) { Node t;
	r = 1; # b1
	t = n.next; # b2
}
procedure sum() returns (int r) { int i;
	i = input; # s1
	while (i != 0) { # s2
		r = r + i; # s3
		i = input; # s4
	}
}
procedure loop() {
	while (0 == 0) { } # l1
}
`

func TestInvoke(t *testing.T) {
	checkBodies(t, []example{
		{"r = add(3, 4);", from(0, 0, list), ended(11, list, "1 add")},
		{"add(3, 4);", from(0, 0, list), ended(0, list, "1 add")},
		{"r = 5;\nadd(3, 4);\nr = r + 1;", from(0, 0, ""), ended(6, "", "1 2 add 3")},
		{"none();", from(0, 0, list), ended(0, list, "1")},
		{"none();\nnone();\nr = 2;", from(0, 0, ""), ended(2, "", "1 2 3")},
		// arguments are computed before anything is assigned
		{"r = 2;\nr = add(r, r + n);\nr = add(r, r);", from(0, 10, ""), ended(78, "", "1 2 add 3 add")},
		{"i = add(n, 1);\nj = add(i, i);\nr = i + j;", from(0, 1, ""), ended(12, "", "1 add 2 add 3")},
		{"if (0 == 0) {\nr = add(1, 1); }\nr = r + 1;", from(0, 0, ""), ended(4, "", "1 2 add 3")},
		{"while (i < 2) {\ni = add(i, 1);\nr = r + 1; }", from(0, 0, ""), ended(1, "", "1 2 add 3 1")},
		// variables with the same names in the caller and in the callee
		{"t = next(x);\nt = next(x);\nif (t == null) {\nr = n; }", from(5, 3, list), ended(3, list, "1 next 2 next 3 4")},
		{"i = 50;\nr = fresh(n);\nr = r + i + n;", from(0, 3, ""), ended(63, "1:Node(0)", "1 2 fr1 fr2 fr3 fr4 fr5 3")},
		{"r = 8;\ni = fresh(1);\ni = fresh(2);\nr = i + r;", from(0, 0, ""), ended(17, "1:Node(0) 2:Node(0)", "1 2 fr1 fr2 fr3 fr4 fr5 3 fr1 fr2 fr3 fr4 fr5 4")},
		// inputs are used up across calls
		{"i = sum();\nj = sum();\nr = 10 * i + j;", withInputs(from(0, 0, ""), 2, 3, 0, 4), ended(54, "", "1 s1 s2 s3 s4 s2 s3 s4 s2 2 s1 s2 s3 s4 s2 3")},
	}, callees)
}

func TestRecursion(t *testing.T) {
	checkBodies(t, []example{
		{"r = fact(0);", from(0, 0, ""), ended(1, "", "1 f1 f2")},
		{"r = fact(2);", from(0, 0, ""), ended(4, "", "1 f1 f3 f1 f3 f1 f2 f4 f4")},
		{"r = even(2);", from(0, 0, ""), ended(1, "", "1 e1 e3 o1 o2 e1 e2")},
		{"r = even(3);\nr = r + 5;", from(0, 0, ""), ended(5, "", "1 e1 e3 o1 o2 e1 e3 o1 2")},
		{"drop(x);", from(2, 0, list), ended(0, "", "1 d1 d2 d3 d4 d1 d2 d3 d4 d1")},
		{"i = main(null, null, 0);", withFuel(from(2, 3, list), 3), limited(api.ErrFull, 0, list, "1 1 1")},
		{"if (n < 2) {\nr = main(x, y, n + 1);\nt = x.next;\nr = r + n; } else {\nr = 10; }", from(2, 0, list), ended(11, list, "1 2 1 2 1 5 3 4 3 4")},
	}, callees)
}

// inCallee is an example with a statement of a callee that fails or stops, if there is one.
type inCallee struct {
	example
	stmt string
}

func checkInCallees(t *testing.T, items string, l []inCallee) {
	t.Helper()
	for _, x := range l {
		all := items
		if x.stmt != "" {
			all = strings.Replace(items, x.stmt, "@"+x.stmt, 1)
		}
		checkRun(t, program(x.body, all), x.s, x.end)
	}
}

// TestFailingCalls demands that the outcome tells the store of the first frame, and the place in the callee.
func TestFailingCalls(t *testing.T) {
	big := from(0, api.MaxInt, list)
	checkInCallees(t, callees, []inCallee{
		{example{"r = 4;\nr = bad(null);", from(0, 0, list), failed(api.ErrNull, 4, list, "1 2 b1")}, "t = n.next; # b2"},
		{example{"r = 4;\nr = bad(x);", from(3, 0, list), failed(api.ErrDead, 4, list, "1 2 b1")}, "t = n.next; # b2"},
		{example{"drop(x);", from(2, 0, "2:Node(5)"), failed(api.ErrDead, 0, "", "1 d1 d2 d3 d4 d1")}, "t = x.next; # d2"},
		{example{"r = 4;\nr = fact(n);", from(0, -1, ""), limited(api.ErrFull, 4, "", "1 2"+strings.Repeat(" f1 f3", 499))}, ""},
		{example{"r = add(n, 1);", big, limited(api.ErrBig, 0, list, "1")}, "c = a + 2 * b;"},
		{example{"r = 4;\nloop();", withFuel(big, 5), limited(api.ErrFull, 4, list, "1 2 l1 l1 l1")}, ""},
		// an argument that is too big
		{example{"r = 4;\n@r = add(n + 1, 0);", big, limited(api.ErrBig, 4, list, "1")}, ""},
		{example{"r = 4;\n@r = add(0, n + 1);", big, limited(api.ErrBig, 4, list, "1")}, ""},
		{example{"r = 4;\n@add(0, n + 1);", big, limited(api.ErrBig, 4, list, "1")}, ""},
		{example{"r = add(n, 0);", big, ended(api.MaxInt, list, "1 add")}, ""},
	})
}

// TestConstants demands that all frames have the globals of the start, and that the parameters and the logical variables of the start do not go to others.
func TestConstants(t *testing.T) {
	items := `global Node h;
procedure n1(int y) returns (int n) logical (int x) requires emp ensures emp {
	n = 100 * y + 10 * n + g; # n1
	n = n2(n); # n2
	h.next = h; # n3
}
procedure n2(int k) returns (int y) {
	y = k + y + g; # n4
}`
	s := from(3, 1, list)
	s.Model.Store = store("g=7 h=5 k=9 n=1 x=3 y=20")
	checkRun(t, program("r = n1(n + n);\nr = r - g;", items), s, ended(207, "2:Node(5) 5:Node(5)", "1 n1 n2 n4 n3 2"))
}
