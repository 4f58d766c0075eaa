package calls_test

import (
	"slices"
	"strings"
	"testing"

	"sepal/api"
	"sepal/calls"
)

// others are procedures that can be called, and call nothing.
const others = `record Node { Node next; }
lock L invariant emp;
procedure f() { }
procedure g(Node x, int n) returns (int r) { }
procedure h() returns (Node r) { }
procedure B() { }
procedure B_() { }
procedure f1() { }
procedure f10() { }
procedure f2() { }
`

// checkCallees demands what the procedure p with this body calls, and that these procedures alone have it as their caller.
func checkCallees(t *testing.T, text, want string) {
	t.Helper()
	p := parsed(t, others+"procedure p(Node y) { Node x; int i; "+text+" }")
	checkNames(t, text, calls.Callees(p, "p"), want)
	for _, x := range p.Procs {
		caller := ""
		if slices.Contains(strings.Fields(want), x.Name) {
			caller = "p"
		}
		checkNames(t, text, calls.Callers(p, x.Name), caller)
		if x.Name != "p" {
			checkNames(t, text, calls.Callees(p, x.Name), "")
		}
	}
}

func TestCallsInStatements(t *testing.T) {
	for _, c := range []struct{ text, want string }{
		{"", ""},
		{"x = null; i = 1; x = new Node; x.next = y; x = x.next; free x; i = input; assert i < 1;", ""},
		{"f();", "f"},
		{"g(x, i + 1);", "g"},
		{"i = g(null, 2 * i);", "g"},
		{"x = h();", "h"},
		{"p(y);", "p"},
		{"par { f(); } { h(); }", "f h"},
		{"par { h(); } { f(); }", "f h"},
		{"par { f(); } { f(); }", "f"},
		{"par { i = g(x, 1); } { x = h(); }", "g h"},
		{"par { p(x); } { f(); }", "f p"},
		{"par { f(); } { p(x); }", "f p"},
		{"if (i == 1) { f(); }", "f"},
		{"if (i == 1) { } else { f(); }", "f"},
		{"if (i == 1) { h(); } else { f(); }", "f h"},
		{"while (i < 1) { f(); }", "f"},
		{"while (i < 1) invariant i == i { i = g(y, 1); }", "g"},
		{"with L { f(); }", "f"},
		{"with L { par { f(); } { h(); } }", "f h"},
		{"f(); f(); x = h(); f(); par { h(); } { f(); }", "f h"},
		{"if (i == 1) { f(); } else { f(); } while (i < 1) { f(); } with L { f(); }", "f"},
		{"with L { h(); } while (i < 1) { p(x); } if (i == 1) { i = g(x, i); } else { f(); }", "f g h p"},
		{"f(); i = 1; h(); i = 2; g(x, 1);", "f g h"},
		{"with L { if (i == 1) { i = 1; } else { while (i < 1) { if (i == 2) { par { h(); } { x = h(); } } i = 2; } f(); } }", "f h"},
		{"p(y); h(); f2(); g(x, 1); f10(); f(); B_(); f1(); B(); p(x); B(); B_();", "B B_ f f1 f10 f2 g h p"},
		{"B(); B_(); f(); f1(); f10(); f2(); g(x, 1); h(); p(x);", "B B_ f f1 f10 f2 g h p"},
	} {
		checkCallees(t, c.text, c.want)
	}
}

// TestDeepCalls demands calls that stand as deep as they can, and at the ends of the longest lists.
func TestDeepCalls(t *testing.T) {
	const text = "lock L invariant emp; procedure a() { } procedure b() { } procedure c() { } procedure p() { }"
	for i, nest := range nests() {
		for _, around := range append(nests(), nest) {
			l := append(slices.Repeat([]api.Stmt{invoke("b")}, api.MaxList-1), api.Stmt{Kind: api.Par, Calls: []api.Call{{Proc: "c"}, {Proc: "a"}}})
			for range api.MaxDepth/2 - 1 {
				l = around(nest(l))
			}
			p := parsed(t, text)
			p.Procs[3].Body = append(nest(l), nest([]api.Stmt{invoke("p")})...)
			checkNames(t, "deep", calls.Callees(valid(t, p), "p"), "a b c p")
			checkNames(t, "deep", calls.Callers(p, "c"), "p")
			checkNames(t, "deep", calls.Callers(p, "p"), "p")
			if !calls.Recursive(p, "p") {
				t.Error(i)
			}
		}
	}
}

func TestCallers(t *testing.T) {
	p := calling(t, "m: f z f; f10: f; B: f10 f; f; B_: f B_ z; f2: m f; z: z; k")
	for _, c := range []struct{ name, callees, callers string }{
		{"m", "f z", "f2"},
		{"f10", "f", "B"},
		{"B", "f f10", ""},
		{"f", "", "B B_ f10 f2 m"},
		{"B_", "B_ f z", "B_"},
		{"f2", "f m", ""},
		{"z", "z", "B_ m z"},
		{"k", "", ""},
		{"K", "", ""},
		{"", "", ""},
		{"f1", "", ""},
		{"f ", "", ""},
		{"int", "", ""},
		{"$f", "", ""},
		{strings.Repeat("f", 1000), "", ""},
		{"\xff", "", ""},
	} {
		checkNames(t, c.name, calls.Callees(p, c.name), c.callees)
		checkNames(t, c.name, calls.Callers(p, c.name), c.callers)
	}
}

// TestOtherThingsWithNames demands that only calls count, although other things have the names of procedures, too.
func TestOtherThingsWithNames(t *testing.T) {
	p := parsed(t, `record f { f g; }
global f h;
lock g invariant emp;
predicate k(f x) = x == null;
lemma m(f x) : k(x) ==> k(x);
procedure f() { }
procedure g() { }
procedure h() { }
procedure k() { }
procedure m() { }
procedure p(f k) returns (f m) logical (f q) requires k(k) & k(q) ensures k(m) {
	f g;
	g = new f;
	m = h;
	with g { free g; }
	while (m != g) invariant k(q) { m.g = k; }
}
procedure q(f f) returns (f p) { f m; m = f.g; p = q(m); m = p; }
`)
	for _, x := range p.Procs {
		want := ""
		if x.Name == "q" {
			want = "q"
		}
		checkNames(t, x.Name, calls.Callees(p, x.Name), want)
		checkNames(t, x.Name, calls.Callers(p, x.Name), want)
	}
}
