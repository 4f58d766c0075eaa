package flow_test

import (
	"maps"
	"slices"
	"strings"
	"testing"

	"sepal/api"
	"sepal/flow"
)

// checkNames demands what the statements of a list assign, read, and hold, and how many loops there are.
func checkNames(t *testing.T, text string, l []api.Stmt, assigned, read, locks string, loops int) {
	t.Helper()
	for i, x := range [][]string{flow.Modified(l), flow.Used(l), flow.Locks(l)} {
		if want := strings.Fields([]string{assigned, read, locks}[i]); !slices.Equal(x, want) {
			t.Errorf("%s: %q instead of %q", text, x, want)
		}
	}
	if n := flow.Loops(l); n != loops {
		t.Errorf("%s: %d loops", text, n)
	}
}

func TestNamesOfStatements(t *testing.T) {
	for _, c := range []struct{ text, assigned, read string }{
		{"", "", ""},
		{"x = 1;", "x", ""},
		{"x = null;", "x", ""},
		{"x = y;", "x", "y"},
		{"x = x;", "x", "x"},
		{"x = c - (a + 2 * (b - 1)) + c;", "x", "a b c"},
		{"x = y.next;", "x", "y"},
		{"x = x.x;", "x", "x"},
		{"x = y.next; x.next = z;", "x", "x y z"},
		{"x.next = 1;", "", "x"},
		{"x.next = y;", "", "x y"},
		{"b.next = c + 3 * a;", "", "a b c"},
		{"x = new Node;", "x", ""},
		{"free x;", "", "x"},
		{"x = input;", "x", ""},
		{"p();", "", ""},
		{"x = p();", "x", ""},
		{"p(y);", "", "y"},
		{"x = p(z, 2 * y + 1, null, z);", "x", "y z"},
		{"x = p(x);", "x", "x"},
		{"assert a == b;", "", "a b"},
		{"assert !(d != c) && (b <= 2 * a || 0 < null);", "", "a b c d"},
		{"par { p(); } { q(); }", "", ""},
		{"par { x = p(); } { q(); }", "x", ""},
		{"par { p(); } { x = q(); }", "x", ""},
		{"par { y = p(a, b + 1); } { x = q(c, 7); }", "x y", "a b c"},
		{"par { x = p(y); } { x = q(y); }", "x", "y"},
	} {
		checkNames(t, c.text, body(t, c.text), c.assigned, c.read, "", 0)
	}
}

func TestNamesInsideOfStatements(t *testing.T) {
	for _, c := range []struct {
		text, assigned, read, locks string
		loops                       int
	}{
		{"if (a == b) { }", "", "a b", "", 0},
		{"if (a < 1 || !(b == null) && c <= d) { x = e; } else { y = f; }", "x y", "a b c d e f", "", 0},
		{"if (0 == 0) { } else { free x; }", "", "x", "", 0},
		{"while (a != b + c) { x = d; }", "x", "a b c d", "", 1},
		{"while (0 == 0) { }", "", "", "", 1},
		{"with L { }", "", "", "L", 0},
		{"with L { x = y; }", "x", "y", "L", 0},
		{"with L { } with K { } with L { }", "", "", "K L", 0},
		{"with L { with M { with K { with L { } } } } x = L;", "x", "L", "K L M", 0},
		{"if (0 == 0) { with B { } } else { with A { } } while (0 == 0) { with C { } }", "", "", "A B C", 1},
		{"while (0 == 0) { while (0 == 0) { } while (0 == 0) { while (0 == 0) { } } } while (0 == 0) { }", "", "", "", 5},
		{"if (0 == 0) { while (0 == 0) { } } else { while (0 == 0) { } with L { while (0 == 0) { } } }", "", "", "L", 3},
		{rich, "a bb ee f ff h i ii jj nn s t u v x z", "aa b c cc d dd e g gg hh j k kk l ll m mm n o p q r s w y z", "K L", 4},
	} {
		checkNames(t, c.text, body(t, c.text), c.assigned, c.read, c.locks, c.loops)
	}
}

// TestInvariantsAreNotRead demands it of names that occur in no other place, or are bound.
func TestInvariantsAreNotRead(t *testing.T) {
	l := body(t, "while (a != null) invariant b == c + d & ls(e, f) || exists Node n, int k: g -> Node(n, k) & h < k { x = y; }")
	checkNames(t, "the loop", l, "x", "a y", "", 1)
	l[0].Inv[0].Cells[0].Args[0] = variable("y")
	checkNames(t, "the loop", l, "x", "a y", "", 1)
}

// TestNamesAreSorted demands the order of bytes, and each name once, however often it occurs.
func TestNamesAreSorted(t *testing.T) {
	names := strings.Fields("$1 $A $_ $a A A1 B Z a aA a_ aa b z z0")
	for seed := range int64(20) {
		m := newMaker(seed)
		var l []api.Stmt
		for range 3 {
			for _, i := range m.Perm(len(names)) {
				l = append(l, api.Stmt{Kind: api.Assign, Name: names[i], E: num(1)})
			}
			for _, i := range m.Perm(len(names)) {
				l = append(l, api.Stmt{Kind: api.Free, Name: names[i]})
			}
		}
		if x, y := flow.Modified(l), flow.Used(l); !slices.Equal(x, names) || !slices.Equal(y, names) {
			t.Error(x, y)
		}
		locks := names[4:]
		l = nil
		for _, i := range m.Perm(len(locks)) {
			l = append(l, api.Stmt{Kind: api.With, Name: locks[i], Body: []api.Stmt{{Kind: api.With, Name: locks[len(locks)-1-i]}}})
		}
		if x := flow.Locks(l); !slices.Equal(x, locks) {
			t.Error(x)
		}
	}
}

// TestNamesInDeepTrees demands names that stand as deep as they can.
func TestNamesInDeepTrees(t *testing.T) {
	e := variable("deep")
	for range api.MaxDepth - 1 {
		e = api.Expr{Kind: api.Add, L: []api.Expr{num(1), e}}
	}
	c := api.Cond{Kind: api.Lt, A: num(1), B: e}
	for range api.MaxDepth - 1 {
		c = api.Cond{Kind: api.Or, L: []api.Cond{equation("a", "b"), c}}
	}
	for _, nest := range nests() {
		l := nested([]api.Stmt{{Kind: api.Assert, C: c}, {Kind: api.Input, Name: "x"}, {Kind: api.While, C: c}}, api.MaxDepth-1, nest)
		if x := flow.Used(l); !slices.Equal(x, []string{"a", "b", "deep"}) {
			t.Error(x)
		}
		if x := flow.Modified(l); !slices.Equal(x, []string{"x"}) || flow.Loops(l)%(api.MaxDepth-1) != 1 {
			t.Error(x)
		}
	}
}

// TestNamesOfRandomLists demands exactly the names that were put into them.
func TestNamesOfRandomLists(t *testing.T) {
	sorted := func(names map[string]bool) string { return strings.Join(slices.Sorted(maps.Keys(names)), " ") }
	randomly(t, 500, 4, func(l []api.Stmt, m *maker) {
		checkNames(t, "a random list", l, sorted(m.assigned), sorted(m.read), sorted(m.locks), m.loops)
	})
}
