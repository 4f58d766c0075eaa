package flow_test

import (
	"math/rand"
	"slices"
	"strconv"
	"strings"
	"testing"

	"sepal/api"
	"sepal/flow"
	"sepal/machine"
	"sepal/memory"
	"sepal/parse"
	"sepal/types"
	"sepal/value"
)

// program returns the program of a text; it has no fault.
func program(t *testing.T, text string) api.Program {
	t.Helper()
	p, place, e := parse.Program(text)
	if e != api.OK || !types.Valid(p) {
		t.Fatal(text, place, e, types.Check(p))
	}
	return p
}

// withUnrolled returns a program with the unrolled body of its first procedure, and whether there is one.
func withUnrolled(t *testing.T, p api.Program, turns int) (api.Program, bool) {
	t.Helper()
	l := flow.Inlined(p.Procs[0].Body, turns)
	if l == nil {
		return p, false
	}
	p = copied(p)
	p.Procs[0].Body = l
	if !types.Valid(p) || flow.Loops(l) != 0 {
		t.Fatal(types.Check(p))
	}
	return p, true
}

// ran is a run with the places of its steps.
type ran struct {
	machine.Outcome
	places []api.Pos
}

func runOf(t *testing.T, p api.Program, s machine.Start) ran {
	t.Helper()
	o, e := machine.Run(p, s)
	l, f := machine.Trace(p, s)
	if e != api.OK || f != api.OK {
		t.Fatal(e, f, s)
	}
	return ran{o, l}
}

func sameRun(a, b ran) bool {
	return a.Kind == b.Kind && a.E == b.E && a.Pos == b.Pos && a.Steps == b.Steps && slices.Equal(a.places, b.places) &&
		slices.Equal(a.Model.Store, b.Model.Store) && memory.Equal(a.Model.Memory, b.Model.Memory)
}

// failsInPlaceOfLoop reports whether a run fails at an assertion in the place of a loop, where the other one goes on.
func failsInPlaceOfLoop(p api.Program, a, original ran) bool {
	n := len(a.places)
	return a.Kind == machine.Failed && a.E == api.ErrAssert && a.Steps == n &&
		n < len(original.places) && slices.Equal(a.places, original.places[:n]) && a.Pos == original.places[n] &&
		slices.ContainsFunc(flat(p.Procs[0].Body), func(s api.Stmt) bool { return s.Kind == api.While && s.Pos == a.Pos })
}

// unrolledBodies returns programs with the unrolled bodies of the first procedure for some numbers of turns, if there are such bodies.
func unrolledBodies(t *testing.T, p api.Program) map[int]api.Program {
	t.Helper()
	all := map[int]api.Program{}
	for _, turns := range []int{0, 1, 2, 3, 5, 20} {
		if u, ok := withUnrolled(t, p, turns); ok {
			all[turns] = u
		}
	}
	return all
}

// checkRuns compares the run from a start with those of the programs with unrolled bodies: they are the same from so many turns on as the run needs, and otherwise fail. It returns how many were the same, and how many failed.
func checkRuns(t *testing.T, text string, p api.Program, all map[int]api.Program, s machine.Start, needed int) (same, failed int) {
	t.Helper()
	original := runOf(t, p, s)
	for turns, u := range all {
		got := runOf(t, u, s)
		switch {
		case turns >= needed && sameRun(got, original):
			same++
		case turns < needed && failsInPlaceOfLoop(p, got, original):
			failed++
		default:
			t.Fatalf("%d turns, where %d are needed: %v instead of %v, from %v of\n%s", turns, needed, got, original, s, text)
		}
	}
	return same, failed
}

// start returns a start of the first procedure of a program with values of its parameters.
func start(t *testing.T, p api.Program, args ...int) machine.Start {
	t.Helper()
	s, e := machine.Store(p, p.Procs[0].Name, args, nil)
	if e != api.OK {
		t.Fatal(e)
	}
	return machine.Start{Proc: p.Procs[0].Name, Model: api.Model{Store: s}, Inputs: []int{1, 3, 0, 2, 4}, Fuel: 400}
}

func TestRunsOfUnrolledBodies(t *testing.T) {
	for _, c := range []struct {
		text   string
		needed func(n int) int
	}{
		{"procedure p(int n) returns (int r) { while (r < n) { r = r + 1; } }", func(n int) int { return n }},
		{"procedure p(int n) returns (int r) { int i; int j; while (i < n) { j = 0; while (j < i) { j = j + 1; r = r + j; } i = i + 1; } }", func(n int) int { return n }},
		{"procedure p(int n) returns (int r) { int i; while (i < 2) { i = i + 1; r = 0; while (r < n) { r = r + 1; } } }", func(n int) int { return max(n, 2) }},
		{"procedure p(int n) returns (int r) { while (r < n) { r = r + 1; } assert r != 2; r = 7; }", func(n int) int { return n }},
		{"procedure p(int n) returns (int r) { while (r < n) { assert r != 2; r = r + 1; } }", func(n int) int { return min(n, 3) }},
		{"procedure p(int n) returns (int r) { r = 1048576; while (0 < n) { r = r + 1; } }", func(n int) int { return min(n, 1) }},
		{"procedure p(int n) returns (int r) { r = 1048575; while (r + n <= 1048576) { r = r + n; if (n == 0) { r = r + 2; } } }", func(n int) int { return max(2-n, 0) - max(1-n, 0) }},
		{"lock L invariant emp; procedure p(int n) returns (int r) { while (r < n) { with L { r = r + 1; } } with L { while (0 < r) { r = r - 1; } with L { } } }", func(n int) int { return n }},
		{"procedure p(int n) returns (int r) { if (0 < n) { r = p(n - 1); } while (r < n) { r = r + 1; } }", func(n int) int { return min(n, 1) }},
		{"procedure p(int n) returns (int r) { int i; if (0 < n) { par { r = p(n - 1); } { i = p(n - 1); } } while (r < 2 * n) { r = r + 1; } }", func(n int) int { return 2 * min(n, 1) }},
		{"procedure p(int n) returns (int r) { r = q(n); while (r < n) { r = r + 1; } } procedure q(int n) returns (int r) { while (2 * r < n) { r = r + 1; } }", func(n int) int { return n / 2 }},
	} {
		p := program(t, c.text)
		all := unrolledBodies(t, p)
		for n := range 6 {
			same, failed := checkRuns(t, c.text, p, all, start(t, p, n), c.needed(n))
			if same == 0 || failed == 0 && c.needed(n) > 0 {
				t.Error(c.text, n, same, failed)
			}
		}
	}
}

// TestExampleOfPlaces looks at the steps of a run with too few turns.
func TestExampleOfPlaces(t *testing.T) {
	p := program(t, "procedure p(int n) returns (int r) {\nr = 1;\nwhile (r < n) {\nr = r + 1; }\nr = 0; }")
	u, _ := withUnrolled(t, p, 2)
	for n, want := range []string{"2 3 5", "2 3 5", "2 3 4 3 5", "2 3 4 3 4 3 5", "2 3 4 3 4 : 3", "2 3 4 3 4 : 3"} {
		x := runOf(t, u, start(t, p, n))
		var l []string
		for _, place := range x.places {
			l = append(l, strconv.Itoa(place.Line))
		}
		if x.Kind == machine.Failed {
			l = append(l, ":", strconv.Itoa(x.Pos.Line))
		}
		if got := strings.Join(l, " "); got != want {
			t.Error(n, got)
		}
	}
}

// writer writes random programs, in which the result counts the turns that a run needs.
type writer struct {
	*rand.Rand
	loops int
}

func (w *writer) one(l ...string) string { return l[w.Intn(len(l))] }

func (w *writer) cond() string {
	return w.one("i < n", "j < i", "j != n", "t != null", "!(i == 3)", "i < 2 || t != null", "k != 0 && j < 3", "i < n", "i < 3", "j + 1048573 < n + 1048574")
}

func (w *writer) simple() string {
	if w.Intn(12) == 0 {
		return w.one("t = t.next;", "assert j != 4;", "free t; t = null;", "j = 1048575 + k;", "t = new Node; t.next = x;", "i = 0;", "j = i - j;")
	}
	return w.one("i = i + 1;", "i = i + 1;", "i = i + 1;", "j = j + 1;", "j = j + 1;", "j = i + 1;", "k = input;", "t = x;", "t = new Node;",
		"if (t != null) { t = t.next; }", "if (t != null) { t = t.next; }", "if (t != null) { t = t.next; }", "k = other(2);", "par { i = other(n); } { k = other(1); }")
}

func (w *writer) loop(depth int) string {
	c := "c" + strconv.Itoa(w.loops)
	w.loops++
	bound := w.one("", c+" < 2 && ", c+" < 3 && ", c+" < 5 && ", c+" < 9 && ")
	return c + " = 0;\nwhile (" + bound + "(" + w.cond() + ")) {\n" + c + " = " + c + " + 1;\nif (r < " + c + ") { r = " + c + "; }\n" +
		w.list(depth-1) + w.one(w.simple(), "i = i + 1; if (t != null) { t = t.next; }", "i = i + 1; j = j + 1;", "i = i + 1; j = j + 1; if (t != null) { t = t.next; }") + "\n}\n"
}

func (w *writer) stmt(depth int) string {
	switch n := w.Intn(10); {
	case n < 3 && depth > 0:
		return w.loop(depth)
	case n < 4 && depth > 0:
		return "if (" + w.cond() + ") {\n" + w.list(depth-1) + "} else {\n" + w.list(depth-1) + "}\n"
	case n < 5 && depth > 0:
		return "with " + w.one("L", "M", "N", "O") + " {\n" + w.list(depth-1) + "}\n"
	}
	return w.simple() + "\n"
}

func (w *writer) list(depth int) string {
	text := ""
	for range w.Intn(4) {
		text += w.stmt(depth)
	}
	return text
}

func (w *writer) program() string {
	w.loops = 0
	stmts := w.list(2) + w.loop(2) + w.list(2)
	text := "record Node { Node next; }\nlock L invariant emp;\nlock M invariant emp;\nlock N invariant emp;\nlock O invariant emp;\nprocedure main(int n, Node x) returns (int r) {\nint i; int j; int k; Node t;\n"
	for i := range w.loops {
		text += "int c" + strconv.Itoa(i) + ";\n"
	}
	return text + "t = x;\n" + stmts + "}\nprocedure other(int n) returns (int s) { while (s < n) { s = s + 1; } }"
}

// nodes returns a memory with a list of n nodes that begins at the address 1.
func nodes(n int) []api.Block {
	l := make([]api.Block, n)
	for i := range l {
		l[i] = api.Block{Address: i + 1, Record: "Node", Fields: []int{(i + 2) % (n + 1)}}
	}
	return l
}

// TestRandomRunsOfUnrolledBodies leaves out only runs without an end, since their last turn may not be counted.
func TestRandomRunsOfUnrolledBodies(t *testing.T) {
	w := &writer{Rand: rand.New(rand.NewSource(1))}
	same, failed, endless := 0, 0, 0
	kinds := map[int]int{}
	for range 90 {
		text := w.program()
		p := program(t, text)
		all := unrolledBodies(t, p)
		for n := range 4 {
			s := start(t, p, n, min(n, 1))
			s.Model.Memory = nodes(n)
			o := runOf(t, p, s).Outcome
			kinds[o.Kind]++
			if o.Kind == machine.Limit && o.E == api.ErrFull {
				endless++
				continue
			}
			needed, _ := value.Get(o.Model.Store, "r")
			some, others := checkRuns(t, text, p, all, s, needed)
			same += some
			failed += others
		}
	}
	if same < 800 || failed < 400 || endless > 60 || kinds[machine.Ended] < 150 || kinds[machine.Failed] < 10 || kinds[machine.Blocked] < 4 || kinds[machine.Limit]-endless < 20 {
		t.Error(same, failed, endless, kinds)
	}
}

// TestRunsWithoutLoops demands that a body without loops is unrolled to itself.
func TestRunsWithoutLoops(t *testing.T) {
	l := body(t, "x = 1; if (a == b) { y = 2; with L { } } else { free c; } par { p(); } { x = q(1); }")
	for n := range 21 {
		if x := flow.Inlined(l, n); !same(x, l) {
			t.Error(n, x)
		}
	}
}

// TestListsBehindOneAnother demands that a list and another one behind it assign what both assign.
func TestListsBehindOneAnother(t *testing.T) {
	before := body(t, rich)
	union := func(a, b []string) []string {
		l := slices.Concat(a, b)
		slices.Sort(l)
		return slices.Compact(l)
	}
	randomly(t, 300, 3, func(l []api.Stmt, _ *maker) {
		both := slices.Concat(before, l)
		if !slices.Equal(flow.Modified(both), union(flow.Modified(before), flow.Modified(l))) ||
			!slices.Equal(flow.Used(both), union(flow.Used(before), flow.Used(l))) ||
			!slices.Equal(flow.Locks(both), union(flow.Locks(before), flow.Locks(l))) ||
			flow.Loops(both) != flow.Loops(before)+flow.Loops(l) {
			t.Errorf("%v", both)
		}
		for n := range 3 {
			a, b := flow.Inlined(before, n), flow.Inlined(l, n)
			if a != nil && b != nil && !same(flow.Inlined(both, n), slices.Concat(a, b)) {
				t.Errorf("%v", both)
			}
		}
		before = l
	})
}
