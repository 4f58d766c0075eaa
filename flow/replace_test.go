package flow_test

import (
	"math"
	"reflect"
	"slices"
	"testing"

	"sepal/api"
	"sepal/flow"
	"sepal/tree"
)

// flat returns the statements of a list in the order of their text.
func flat(l []api.Stmt) []api.Stmt {
	var all []api.Stmt
	for _, s := range l {
		all = append(all, s)
		all = append(all, flat(s.Body)...)
		all = append(all, flat(s.Else)...)
	}
	return all
}

// checkAt demands each statement of a list, and none besides.
func checkAt(t *testing.T, l []api.Stmt) {
	t.Helper()
	all := flat(l)
	for n, want := range all {
		s, ok := flow.At(l, n)
		if !ok || !same([]api.Stmt{s}, []api.Stmt{want}) {
			t.Errorf("%d: %v, %v instead of %v", n, s, ok, want)
		}
	}
	for _, n := range []int{-1, len(all), len(all) + 1, -len(all), math.MinInt, math.MaxInt} {
		if s, ok := flow.At(l, n); ok || !zeroStmt(s) {
			t.Errorf("%d: %v", n, s)
		}
	}
}

func TestAt(t *testing.T) {
	checkAt(t, nil)
	checkAt(t, []api.Stmt{})
	checkAt(t, long(1))
	checkAt(t, body(t, rich))
	for _, nest := range nests() {
		checkAt(t, append(nested(long(2), api.MaxDepth-1, nest), assign("y")))
	}
	randomly(t, 200, 4, func(l []api.Stmt, _ *maker) { checkAt(t, l) })
}

func TestAtNumbers(t *testing.T) {
	l := body(t, "while (0 == 0) { a = 1; } b = 2; if (0 == 0) { c = 3; if (0 == 0) { } else { d = 4; } e = 5; } else { f = 6; with g { h = 7; } } i = 8;")
	for n, want := range []string{"", "a", "b", "", "c", "", "d", "e", "f", "g", "h", "i"} {
		if s, ok := flow.At(l, n); !ok || s.Name != want {
			t.Error(n, s, ok)
		}
	}
}

// checkReplace demands a result, and the error.
func checkReplace(t *testing.T, text string, l []api.Stmt, n int, by, want []api.Stmt, wantError api.Errno) {
	t.Helper()
	x, e := flow.Replace(l, n, by)
	if e != wantError || e != api.OK && x != nil || !same(x, want) {
		t.Errorf("%s, %d: %v, %d instead of %v, %d", text, n, x, e, want, wantError)
	}
}

func TestReplace(t *testing.T) {
	const text = "x = 1; if (a == b) { y = 2; with L { z = 3; } } else { while (a == b) invariant emp { u = 4; } v = 5; } w = 6;"
	for _, c := range []struct {
		n        int
		by, want string
	}{
		{0, "", "if (a == b) { y = 2; with L { z = 3; } } else { while (a == b) invariant emp { u = 4; } v = 5; } w = 6;"},
		{0, "c = 7;", "c = 7; if (a == b) { y = 2; with L { z = 3; } } else { while (a == b) invariant emp { u = 4; } v = 5; } w = 6;"},
		{1, "", "x = 1; w = 6;"},
		{1, "c = 7; if (a == b) { d = 8; } e = 9;", "x = 1; c = 7; if (a == b) { d = 8; } e = 9; w = 6;"},
		{2, "", "x = 1; if (a == b) { with L { z = 3; } } else { while (a == b) invariant emp { u = 4; } v = 5; } w = 6;"},
		{2, "c = 7; d = 8;", "x = 1; if (a == b) { c = 7; d = 8; with L { z = 3; } } else { while (a == b) invariant emp { u = 4; } v = 5; } w = 6;"},
		{3, "", "x = 1; if (a == b) { y = 2; } else { while (a == b) invariant emp { u = 4; } v = 5; } w = 6;"},
		{3, "c = 7; d = 8; e = 9;", "x = 1; if (a == b) { y = 2; c = 7; d = 8; e = 9; } else { while (a == b) invariant emp { u = 4; } v = 5; } w = 6;"},
		{4, "", "x = 1; if (a == b) { y = 2; with L { } } else { while (a == b) invariant emp { u = 4; } v = 5; } w = 6;"},
		{4, "c = 7; d = 8;", "x = 1; if (a == b) { y = 2; with L { c = 7; d = 8; } } else { while (a == b) invariant emp { u = 4; } v = 5; } w = 6;"},
		{5, "c = 7;", "x = 1; if (a == b) { y = 2; with L { z = 3; } } else { c = 7; v = 5; } w = 6;"},
		{5, "", "x = 1; if (a == b) { y = 2; with L { z = 3; } } else { v = 5; } w = 6;"},
		{6, "", "x = 1; if (a == b) { y = 2; with L { z = 3; } } else { while (a == b) invariant emp { } v = 5; } w = 6;"},
		{6, "while (b == c) { } d = 8;", "x = 1; if (a == b) { y = 2; with L { z = 3; } } else { while (a == b) invariant emp { while (b == c) { } d = 8; } v = 5; } w = 6;"},
		{7, "c = 7; d = 8;", "x = 1; if (a == b) { y = 2; with L { z = 3; } } else { while (a == b) invariant emp { u = 4; } c = 7; d = 8; } w = 6;"},
		{8, "c = 7; d = 8;", "x = 1; if (a == b) { y = 2; with L { z = 3; } } else { while (a == b) invariant emp { u = 4; } v = 5; } c = 7; d = 8;"},
		{8, "", "x = 1; if (a == b) { y = 2; with L { z = 3; } } else { while (a == b) invariant emp { u = 4; } v = 5; }"},
	} {
		if x, e := flow.Replace(body(t, text), c.n, body(t, c.by)); e != api.OK || !tree.EqualStmts(x, body(t, c.want)) {
			t.Error(c.n, c.by, e)
		}
	}
}

// replaced returns the list in which the statement in a line is replaced.
func replaced(l []api.Stmt, line int, by []api.Stmt) []api.Stmt {
	var to []api.Stmt
	for _, s := range l {
		if s.Pos.Line == line {
			to = append(to, by...)
			continue
		}
		s.Body, s.Else = replaced(s.Body, line, by), replaced(s.Else, line, by)
		to = append(to, s)
	}
	return to
}

func TestReplaceInRandomLists(t *testing.T) {
	more := [][]api.Stmt{nil, {assign("x")}, body(t, "x = 1; while (a == b) { with L { y = 1; } } z = 1;"), body(t, rich)}
	randomly(t, 200, 4, func(l []api.Stmt, m *maker) {
		for n := range m.stmts {
			for _, by := range more {
				checkReplace(t, "a random list", l, n, by, replaced(l, n, by), api.OK)
			}
		}
		more[m.Intn(3)] = l
	})
}

// TestReplaceByItself demands that it changes nothing; the parts of a statement are among those that are replaced.
func TestReplaceByItself(t *testing.T) {
	check := func(l []api.Stmt) {
		for n, s := range flat(l) {
			checkReplace(t, "by itself", l, n, []api.Stmt{s}, l, api.OK)
			again, _ := flow.At(l, n)
			checkReplace(t, "by itself", l, n, []api.Stmt{again}, l, api.OK)
		}
	}
	check(body(t, rich))
	check(slices.Repeat(body(t, rich), 5))
	randomly(t, 100, 4, func(l []api.Stmt, _ *maker) { check(l) })
}

func TestErrorsOfReplace(t *testing.T) {
	full, wrong := long(api.MaxList), []api.Stmt{{}}
	for _, n := range []int{-1, 1, 2, 1000, math.MinInt, math.MaxInt} {
		checkReplace(t, "no such statement", long(1), n, long(1), nil, api.ErrRange)
		checkReplace(t, "no such statement", long(1), n, nil, nil, api.ErrRange)
		checkReplace(t, "nor would it fit", nil, n, full, nil, api.ErrRange)
		checkReplace(t, "the list", wrong, n, full, nil, api.ErrArg)
		checkReplace(t, "the statements", full, n, wrong, nil, api.ErrArg)
		checkReplace(t, "both", wrong, n, wrong, nil, api.ErrArg)
	}
	checkReplace(t, "an empty list", nil, 0, long(1), nil, api.ErrRange)
	checkReplace(t, "an empty list", []api.Stmt{}, 0, nil, nil, api.ErrRange)
	checkReplace(t, "it would not fit", full, 100, long(2), nil, api.ErrRange)
	checkReplace(t, "it would not fit", full, -1, long(2), nil, api.ErrRange)
	checkReplace(t, "too long", full, 99, append(long(2), wrong...), nil, api.ErrArg)
	l := body(t, rich)
	checkReplace(t, "one more than the last", l, len(flat(l)), long(1), nil, api.ErrRange)
	checkReplace(t, "one more than the last", l, len(flat(l)), nil, nil, api.ErrRange)
	checkReplace(t, "the last", l, len(flat(l))-1, nil, l[:len(l)-1], api.OK)
}

// TestReplaceInFullLists replaces a statement of lists that have the greatest length, or nearly.
func TestReplaceInFullLists(t *testing.T) {
	bare := func(l []api.Stmt) []api.Stmt { return l }
	for i, nest := range append(nests(), bare) {
		first := min(len(nests())-i, 1) // the number of the first statement of the inner list
		for _, length := range []int{1, 2, 50, api.MaxList - 1, api.MaxList} {
			for _, more := range []int{0, 1, 2, 3, 51, api.MaxList - 1, api.MaxList} {
				for _, n := range []int{0, length / 2, length - 1} {
					l := long(length)
					by := slices.Repeat([]api.Stmt{assign("y")}, more)
					want, e := nest(slices.Concat(l[:n], by, l[n+1:])), api.OK
					if length-1+more > api.MaxList {
						want, e = nil, api.ErrFull
					}
					checkReplace(t, "a full list", nest(l), first+n, by, want, e)
				}
			}
		}
	}
}

// TestReplaceInDeepLists replaces the innermost statement by others that have some depth.
func TestReplaceInDeepLists(t *testing.T) {
	for _, nest := range nests() {
		for _, depth := range []int{0, 1, 2, 15, api.MaxDepth - 2, api.MaxDepth - 1} {
			for _, more := range []int{0, 1, 2, 14, 15, 16, api.MaxDepth - 2, api.MaxDepth - 1} {
				l := nested(long(1), depth, nest)
				by := nested(long(2), more, nest)
				want, e := nested(by, depth, nest), api.OK
				if depth+more+1 > api.MaxDepth {
					want, e = nil, api.ErrFull
				}
				checkReplace(t, "a deep list", l, depth, by, want, e)
			}
			checkReplace(t, "a deep list", nested(long(1), depth, nest), depth, nil, nested(nil, depth, nest), api.OK)
		}
	}
}

// TestReplaceMakesRoom replaces statements that others are inside of, in lists that cannot be deeper or longer.
func TestReplaceMakesRoom(t *testing.T) {
	for _, nest := range nests() {
		deepest := nested(long(api.MaxList), api.MaxDepth-1, nest)
		for n := range api.MaxDepth - 1 {
			inner := nested(long(api.MaxList), api.MaxDepth-1-n, nest)
			checkReplace(t, "as deep", deepest, n, inner, deepest, api.OK)
			checkReplace(t, "less deep", deepest, n, long(api.MaxList), nested(long(api.MaxList), n, nest), api.OK)
			if n > 0 { // otherwise it would be too deep by itself
				checkReplace(t, "deeper", deepest, n, nest(inner), nil, api.ErrFull)
			}
		}
	}
}

// TestReplaceKeepsPlaces demands that the statements keep their places, those that are new, too.
func TestReplaceKeepsPlaces(t *testing.T) {
	l, by := body(t, "x = 1;\n\nif (0 == 0) { y = 2;\n z = 3; }"), body(t, "\n\n\n\nu = 4;\n v = 5;")
	x, _ := flow.Replace(l, 2, by)
	want := []api.Pos{{Line: 2, Column: 1}, {Line: 4, Column: 1}, {Line: 6, Column: 1}, {Line: 7, Column: 2}, {Line: 5, Column: 2}}
	if got := places(x); !reflect.DeepEqual(got, want) {
		t.Error(got)
	}
}
