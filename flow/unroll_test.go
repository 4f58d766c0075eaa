package flow_test

import (
	"math"
	"slices"
	"strings"
	"testing"

	"sepal/api"
	"sepal/flow"
	"sepal/tree"
)

func TestInlined(t *testing.T) {
	for _, c := range []struct {
		n          int
		text, want string
	}{
		{0, "", ""},
		{20, "", ""},
		{0, "x = 1; if (a == b) { y = 2; } else { free z; }", "x = 1; if (a == b) { y = 2; } else { free z; }"},
		{20, "x = 1; if (a == b) { y = 2; } else { free z; }", "x = 1; if (a == b) { y = 2; } else { free z; }"},
		{0, "while (a < b) { a = a + 1; } c = a;", "assert !(a < b); c = a;"},
		{1, "while (a < b) { a = a + 1; } c = a;", "if (a < b) { a = a + 1; assert !(a < b); } c = a;"},
		{2, "while (a < b) { a = a + 1; } c = a;", "if (a < b) { a = a + 1; if (a < b) { a = a + 1; assert !(a < b); } } c = a;"},
		{3, "while (a < b) { x = 1; y = 2; }", "if (a < b) { x = 1; y = 2; if (a < b) { x = 1; y = 2; if (a < b) { x = 1; y = 2; assert !(a < b); } } }"},
		{0, "while (a < b) { }", "assert !(a < b);"},
		{1, "while (a < b) { }", "if (a < b) { assert !(a < b); }"},
		{2, "while (a < b) { }", "if (a < b) { if (a < b) { assert !(a < b); } }"},
		{1, "while (a < b || !(b != 0 && a == b)) invariant emp || ls(a, b) { }", "if (a < b || !(b != 0 && a == b)) { assert !(a < b || !(b != 0 && a == b)); }"},
		{0, "while (!(a < b)) { }", "assert !!(a < b);"},
		{0, "while (a < b) { while (b < c) { } }", "assert !(a < b);"},
		{1, "while (a < b) { while (b < c) { x = 1; } }", "if (a < b) { if (b < c) { x = 1; assert !(b < c); } assert !(a < b); }"},
		{2, "while (a < b) { while (b < c) { x = 1; } }", `if (a < b) { if (b < c) { x = 1; if (b < c) { x = 1; assert !(b < c); } }
			if (a < b) { if (b < c) { x = 1; if (b < c) { x = 1; assert !(b < c); } } assert !(a < b); } }`},
		{1, "if (a == 0) { while (a < b) { x = 1; } } else { y = 2; while (b < a) { y = 3; } } with L { while (a == b) { } }",
			"if (a == 0) { if (a < b) { x = 1; assert !(a < b); } } else { y = 2; if (b < a) { y = 3; assert !(b < a); } } with L { if (a == b) { assert !(a == b); } }"},
		{1, "while (a < b) { with L { while (b < c) { } } if (c < d) { } else { while (d < e) { } } }",
			"if (a < b) { with L { if (b < c) { assert !(b < c); } } if (c < d) { } else { if (d < e) { assert !(d < e); } } assert !(a < b); }"},
	} {
		if x := flow.Inlined(body(t, c.text), c.n); !tree.EqualStmts(x, body(t, c.want)) {
			t.Errorf("%s, %d: %v", c.text, c.n, x)
		}
	}
}

func TestInlinedWithTurnsOutOfRange(t *testing.T) {
	for _, text := range []string{"x = 1;", "while (a < b) { }", rich} {
		for _, n := range []int{-1, 21, 22, 100, math.MinInt, math.MaxInt} {
			if x := flow.Inlined(body(t, text), n); x != nil {
				t.Error(text, n, x)
			}
		}
	}
	l := flow.Inlined(body(t, "while (a < b) { c = 1; }"), 20)
	if len(flat(l)) != 41 || flow.Paths(l, 0) != 21 {
		t.Error(l)
	}
}

// TestInlinedPlaces demands that all that a loop is replaced by has its place, but not what is inside of it.
func TestInlinedPlaces(t *testing.T) {
	l := body(t, "x = 1;\nwhile (a < b) {\ny = 2;\nwhile (b < c) {\nz = 3; } } u = 4;")
	var lines []string
	for _, s := range flat(flow.Inlined(l, 2)) {
		lines = append(lines, string(rune('0'+s.Pos.Line)))
	}
	if got := strings.Join(lines, ""); got != "2"+"3"+"45656"+"5"+"3"+"45656"+"5"+"3"+"6" {
		t.Error(got)
	}
	for n := range 4 {
		for i, s := range flow.Inlined(l, n) {
			if s.Pos != l[i].Pos {
				t.Error(n, i, s)
			}
		}
	}
}

// unrolled returns the list that is unrolled for n turns, by the chapter's definition.
func unrolled(l []api.Stmt, n int) []api.Stmt {
	var to []api.Stmt
	for _, s := range l {
		inner := unrolled(s.Body, n)
		if s.Kind == api.While {
			to = append(to, replacement(s, inner, n))
			continue
		}
		s.Body, s.Else = inner, unrolled(s.Else, n)
		to = append(to, s)
	}
	return to
}

// replacement returns what a loop with this unrolled body is replaced by for the turns that are left.
func replacement(s api.Stmt, inner []api.Stmt, left int) api.Stmt {
	if left == 0 {
		return api.Stmt{Kind: api.Assert, Pos: s.Pos, C: api.Cond{Kind: api.Not, L: []api.Cond{s.C}}}
	}
	return api.Stmt{Kind: api.If, Pos: s.Pos, C: s.C, Body: append(slices.Clone(inner), replacement(s, inner, left-1))}
}

// checkInlined compares with the definition, and demands that no loop is left. It reports whether the unrolled list is valid.
func checkInlined(t *testing.T, l []api.Stmt, n int) bool {
	t.Helper()
	want := unrolled(l, n)
	valid := tree.Stmts(want)
	if !valid {
		want = nil
	}
	x := flow.Inlined(l, n)
	if !same(x, want) || !valid && x != nil || flow.Loops(x) != 0 {
		t.Errorf("%d turns of %v: %v", n, l, x)
	}
	return valid
}

func TestInlinedRandomLists(t *testing.T) {
	count := map[bool]int{}
	randomly(t, 300, 4, func(l []api.Stmt, _ *maker) {
		for n := range 5 {
			count[checkInlined(t, l, n)]++
		}
	})
	randomly(t, 300, 2, func(l []api.Stmt, _ *maker) {
		for _, n := range []int{7, 9, 10, 13, 14, 15, 19, 20} {
			count[checkInlined(t, l, n)]++
		}
	})
	if count[true] < 1000 || count[false] < 50 {
		t.Error(count)
	}
}

// TestInlinedTooDeep finds, for loops at some depth, and with some depth inside of them, the greatest number of turns.
func TestInlinedTooDeep(t *testing.T) {
	outer := nests()
	outer[2] = outer[0] // no further loop
	for i, nest := range outer {
		for around := range api.MaxDepth {
			for inside := range api.MaxDepth - around {
				l := loop(nil)
				if inside > 0 {
					l = loop(nested(long(1), inside-1, outer[(i+1)%4]))
				}
				l = append(long(3), nested(l, around, nest)...)
				exact := api.MaxDepth - around - max(inside, 1)
				for _, n := range []int{0, 1, exact - 1, exact, exact + 1, 20} {
					if n < 0 || n > 20 {
						continue
					}
					valid := n == 0 || around+1+max(inside, 1)+n-1 <= api.MaxDepth
					if (flow.Inlined(l, n) != nil) != valid {
						t.Fatal(around, inside, n)
					}
				}
			}
		}
	}
}

// TestInlinedLoopsInLoops nests loops as deep as possible, alone and in both sides of others.
func TestInlinedLoopsInLoops(t *testing.T) {
	nest := nests()[2]
	for levels := 1; levels < api.MaxDepth; levels++ {
		for n := range 21 {
			valid := levels*n+1 <= api.MaxDepth
			for _, l := range [][]api.Stmt{nested(nil, levels, nest), append(long(3), nested(long(1), levels, nest)...)} {
				x := flow.Inlined(l, n)
				if (x != nil) != valid || valid && n < 3 && levels < 8 && !checkInlined(t, l, n) {
					t.Fatal(levels, n)
				}
			}
		}
	}
}

// TestInlinedFarTooLong demands an end also if there would be more statements than can be made; nothing is returned, although a part of the list fits.
func TestInlinedFarTooLong(t *testing.T) {
	nest := nests()[2]
	deepest := nested(long(1), api.MaxDepth-1, nest)
	for n := 2; n <= 20; n++ {
		for _, l := range [][]api.Stmt{deepest, append(nested(long(90), 2, nest), deepest...), slices.Repeat(nested(long(1), 20, nest), api.MaxList)} {
			if x := flow.Inlined(l, n); x != nil {
				t.Error(n, len(x))
			}
		}
	}
	if x := flow.Inlined(deepest, 1); !same(x, unrolled(deepest, 1)) {
		t.Error(x)
	}
}

// TestInlinedFullLists demands nothing if the body of a loop has no room for what follows it.
func TestInlinedFullLists(t *testing.T) {
	for length := api.MaxList - 2; length <= api.MaxList; length++ {
		inner := loop(long(length))
		for _, l := range [][]api.Stmt{inner, loop(inner), slices.Repeat(inner, 3)} {
			for n := range 3 {
				if valid := checkInlined(t, l, n); valid != (n == 0 || length < api.MaxList) {
					t.Error(length, n)
				}
			}
		}
		for i, nest := range nests() {
			for n := range 3 {
				if valid := checkInlined(t, nest(long(length)), n); valid != (i != 2 || n == 0 || length < api.MaxList) {
					t.Error(i, length, n)
				}
				checkInlined(t, slices.Repeat(loop(nest(long(length))), 2), n)
			}
		}
	}
}

// TestInlinedDeepConditions demands nothing if a negation would be too deep; with no turns, loops inside of others are not there any more.
func TestInlinedDeepConditions(t *testing.T) {
	for _, depth := range []int{1, 2, api.MaxDepth - 1, api.MaxDepth} {
		l := []api.Stmt{{Kind: api.While, C: deepCond(depth)}}
		for n := range 3 {
			fits := depth < api.MaxDepth
			for i, nest := range nests() {
				if valid := checkInlined(t, nest(l), n); valid != (fits || i == 2 && n == 0) {
					t.Error(depth, n, i)
				}
			}
			if checkInlined(t, l, n) != fits || checkInlined(t, append(long(2), l...), n) != fits {
				t.Error(depth, n)
			}
			others := []api.Stmt{{Kind: api.If, C: deepCond(depth)}, {Kind: api.Assert, C: deepCond(depth)}}
			if !checkInlined(t, others, n) || !checkInlined(t, loop(others), n) {
				t.Error(depth, n)
			}
		}
	}
}
