package calls_test

import (
	"slices"
	"strconv"
	"strings"
	"testing"

	"sepal/api"
	"sepal/calls"
)

// checkComponents demands components, and that these procedures alone are recursive.
func checkComponents(t *testing.T, p api.Program, want, recursive string) {
	t.Helper()
	if l := listed(calls.Components(p)); l != want {
		t.Errorf("%s, want %s", l, want)
	}
	for _, x := range p.Procs {
		if calls.Recursive(p, x.Name) != slices.Contains(strings.Fields(recursive), x.Name) {
			t.Errorf("%s: %s is recursive, or not", want, x.Name)
		}
	}
}

func TestComponents(t *testing.T) {
	for _, c := range []struct{ text, want, recursive string }{
		{"a", "a", ""},
		{"a: a", "a", "a"},
		{"a: a a a", "a", "a"},
		{"main: even odd; even: odd; odd: even", "even odd | main", "even odd"},
		{"b: a; a: b", "a b", "a b"},
		{"b: a b; a: b", "a b", "a b"},
		{"b: c; c: a; a: b", "a b c", "a b c"},
		{"d: b; b: c; c: a; a: d", "a b c d", "a b c d"},
		// chains
		{"a: b; b", "b | a", ""},
		{"a; b: a", "a | b", ""},
		{"b: c; c: a; a: d; d", "d | a | c | b", ""},
		{"a: b; b: b", "b | a", "b"},
		{"a: a b; b", "b | a", "a"},
		{"a: b c; b: c; c", "c | b | a", ""},
		{"c: a b; b: a; a", "a | b | c", ""},
		// cycles that hang together
		{"a: b; b: a c; c: b", "a b c", "a b c"},
		{"b: a d; a: b; d: c; c: d", "c d | a b", "a b c d"},
		{"a: b; b: a; c: d; d: c b", "a b | c d", "a b c d"},
		{"a: b; b: a d; c: d; d: c a", "a b c d", "a b c d"},
		{"x: a b; a: b; b: a y; y: z; z", "z | y | a b | x", "a b"},
		{"a: z; z: m; m: n; n: m", "m n | z | a", "m n"},
		{"a: b; b: c; c: b d; d: e; e: f; f: d", "d e f | b c | a", "b c d e f"},
		// the order of bytes
		{"b; a; A; B_; B10; B2; Ba; a_; aB; z1: z; z: z1", "A | B10 | B2 | B_ | Ba | a | aB | a_ | b | z z1", "z z1"},
	} {
		checkComponents(t, calling(t, c.text), c.want, c.recursive)
	}
	checkComponents(t, api.Program{}, "", "")
	if l := calls.Components(parsed(t, "record Node { Node next; } global Node x;")); len(l) != 0 {
		t.Error(l)
	}
}

// TestOrderOfComponents has several components that could be listed next.
func TestOrderOfComponents(t *testing.T) {
	for _, c := range []struct{ text, want, recursive string }{
		{"c; a; b", "a | b | c", ""},
		{"a: z; z; b", "b | z | a", ""},
		{"c; a: b; b", "b | a | c", ""},
		{"d; a: c; c; b", "b | c | a | d", ""},
		{"a: z; z; y: b; b", "b | y | z | a", ""},
		{"a: y z; y; z; b: y", "y | b | z | a", ""},
		{"a: b; b: c; c; d; e: d", "c | b | a | d | e", ""},
		{"e: a; d: e; a; b: d; c", "a | c | e | d | b", ""},
		{"a: z; z: a; b", "a z | b", "a z"},
		{"b: y; y: b; a: x; x: a", "a x | b y", "a b x y"},
		{"m: z; z: m; n: o; o: n", "m z | n o", "m n o z"},
		{"a: y; b: z; z: b; y", "b z | y | a", "b z"},
		{"a: b; b: a q; c: d; d: c; q", "c d | q | a b", "a b c d"},
		{"b: c; c: b a; a: d; d: a; e; A: b", "a d | b c | A | e", "a b c d"},
		{"a: m; m: a n; b: n; n: b; c", "b n | a m | c", "a b m n"},
		{"p: q; q: p r; r: s; s: r; a: s; t: a; b", "b | r s | a | p q | t", "p q r s"},
	} {
		checkComponents(t, calling(t, c.text), c.want, c.recursive)
	}
}

// TestOrderOfTexts demands that the order of the procedures, and of the calls in them, does not matter.
func TestOrderOfTexts(t *testing.T) {
	items := strings.Split("a: m q; m: n a; n: m; b: b; q: n c; c", ";")
	permuted(items, func(l []string) {
		checkComponents(t, calling(t, strings.Join(l, ";")), "b | c | a m n q", "a b m n q")
	})
	permuted(strings.Fields("b d c a"), func(l []string) {
		checkComponents(t, calling(t, "e: "+strings.Join(l, " ")+"; a: d; b; c; d: a"), "a d | b | c | e", "a d")
	})
}

// permuted calls visit with a list in all orders.
func permuted(l []string, visit func(l []string)) {
	l = slices.Clone(l)
	var from func(i int)
	from = func(i int) {
		if i == len(l) {
			visit(l)
		}
		for j := i; j < len(l); j++ {
			l[i], l[j] = l[j], l[i]
			from(i + 1)
			l[i], l[j] = l[j], l[i]
		}
	}
	from(0)
}

func TestRecursive(t *testing.T) {
	p := calling(t, "a: b; b: c; c: b d; d: e; e; f: f e; g: h; h: i; i: j; j: g a")
	for name, want := range map[string]bool{
		"a": false, "b": true, "c": true, "d": false, "e": false, "f": true, "g": true, "h": true, "i": true, "j": true,
		"k": false, "": false, "B": false, "int": false, "$a": false, "b c": false,
	} {
		if calls.Recursive(p, name) != want {
			t.Error(name)
		}
	}
	if calls.Recursive(api.Program{}, "a") || calls.Recursive(api.Program{}, "") {
		t.Error("no procedures")
	}
}

// TestRecursiveInStatements demands that a call counts wherever it stands.
func TestRecursiveInStatements(t *testing.T) {
	for _, text := range []string{
		"a();",
		"par { a(); } { B(); }",
		"par { B(); } { a(); }",
		"if (0 == 1) { a(); }",
		"if (0 == 1) { } else { a(); }",
		"while (0 == 1) { a(); }",
		"with L { a(); }",
		"B(); c(); with L { while (0 == 1) { if (0 == 2) { } else { par { B(); } { a(); } } } }",
	} {
		p := parsed(t, "lock L invariant emp; procedure a() { c(); } procedure B() { } procedure c() { "+text+" } procedure d() { a(); }")
		checkComponents(t, p, "B | a c | d", "a c")
	}
}

// many returns a program with as many procedures as there can be; calleesOf has the numbers of those that one calls.
func many(t *testing.T, calleesOf func(i int) []int) api.Program {
	t.Helper()
	var items []string
	for i := range api.MaxList {
		item := nameOf(i) + ":"
		for _, n := range calleesOf(i) {
			item += " " + nameOf(n)
		}
		items = append(items, item)
	}
	return calling(t, strings.Join(items, ";"))
}

// nameOf returns the name of a procedure; names are in the order of their numbers.
func nameOf(n int) string { return "p" + strconv.Itoa(100+n) }

// upTo returns the numbers below n.
func upTo(n int) []int {
	var l []int
	for i := range n {
		l = append(l, i)
	}
	return l
}

func TestManyProcedures(t *testing.T) {
	const n = api.MaxList
	var names []string
	for i := range n {
		names = append(names, nameOf(i))
	}
	all, apart := strings.Join(names, " "), strings.Join(names, " | ")
	checkComponents(t, many(t, func(int) []int { return nil }), apart, "")
	checkComponents(t, many(t, func(i int) []int { return upTo(i) }), apart, "")
	checkComponents(t, many(t, func(i int) []int { return []int{max(i-1, 0)} }), apart, names[0])
	checkComponents(t, many(t, func(int) []int { return upTo(n) }), all, all)
	checkComponents(t, many(t, func(i int) []int { return []int{(i + 1) % n} }), all, all)
	checkComponents(t, many(t, func(i int) []int { return []int{(i + 3) % n} }), all, all)
	slices.Reverse(names)
	checkComponents(t, many(t, func(i int) []int { return []int{min(i+1, n-1)} }), strings.Join(names, " | "), names[0])
	checkComponents(t, many(t, func(i int) []int { return upTo(n)[i+1:] }), strings.Join(names, " | "), "")
}
