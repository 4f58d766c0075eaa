package pure_test

import (
	"slices"
	"testing"

	"sepal/api"
	"sepal/pure"
)

func checkTrivial(t *testing.T, about string, a api.Atom, holds, known bool) {
	t.Helper()
	if h, k := pure.Trivial(a); h != holds || k != known {
		t.Error(about, ":", h, k)
	}
}

func TestTrivial(t *testing.T) {
	for _, c := range []struct {
		a            string
		holds, known bool
	}{
		{"3 == 3", true, true}, {"3 == 4", false, true}, {"4 == 3", false, true}, {"3 != 3", false, true}, {"3 != 4", true, true}, {"4 != 3", true, true},
		{"3 <= 3", true, true}, {"3 <= 4", true, true}, {"4 <= 3", false, true}, {"3 < 3", false, true}, {"3 < 4", true, true}, {"4 < 3", false, true},
		{"x == x", true, true}, {"x != x", false, true}, {"x <= x", true, true}, {"x < x", false, true}, {"x < x + 1", true, true}, {"x + 1 < x", false, true}, {"x + 1 <= x", false, true}, {"x != x + 1", true, true},
		{"null == 0", true, true}, {"null == null", true, true}, {"0 * x == null", true, true}, {"x - x < 1", true, true}, {"2 * (x + y) == x + y + y + x", true, true}, {"2 * (x + y) != x + y + y + x", false, true}, {"2 * x - 3 <= x + x - 2", true, true},
		{"x == y", false, false}, {"x != y", false, false}, {"x <= y", false, false}, {"x < y", false, false}, {"x == 0", false, false}, {"0 <= x", false, false}, {"x <= 2 * x", false, false}, {"x + y == x + z", false, false}, {"2 * x != 1", false, false}, {"x < x + y", false, false}, {"x - y == y - x", false, false},
	} {
		checkTrivial(t, c.a, atom(c.a), c.holds, c.known)
	}
}

// TestTrivialBig demands that the normal form of A - B, and nothing else, has to exist.
func TestTrivialBig(t *testing.T) {
	x, one, zero := variable("x"), number(1), number(0)
	for i, c := range []struct {
		a, b api.Expr
		sign int
		ok   bool
	}{
		{number(most), zero, 1, true}, {zero, number(most), -1, true}, {number(-most), zero, -1, true}, {zero, number(-most), 1, true}, {number(most), number(most), 0, true}, {number(most / 2), number(-most / 2), 1, true},
		{sum(multiple(most, x), one), multiple(most, x), 1, true}, {multiple(-most, x), sum(one, multiple(-most, x)), -1, true}, {multiple(most, sum(x, one)), multiple(most, x), 1, true},
		{number(most), number(-1), 0, false}, {number(-1), number(most), 0, false}, {number(-most), one, 0, false}, {multiple(2, number(most)), zero, 0, false}, {multiple(2, number(most)), multiple(2, number(most)), 0, false}, {zero, sum(number(most), one), 0, false}, {multiple(0, multiple(2, number(most))), zero, 0, false},
		{multiple(most, x), multiple(-1, x), 0, false}, {multiple(2, multiple(most, x)), multiple(2, multiple(most, x)), 0, false},
		{long(0, api.MaxList), long(0, api.MaxList), 0, true}, {long(0, api.MaxList+1), long(0, api.MaxList+1), 0, false}, {long(0, api.MaxList), long(0, api.MaxList-1), 0, false}, {multiple(0, long(0, 2*api.MaxList)), zero, 0, true},
	} {
		for _, kind := range kinds {
			holds := c.ok && [...]bool{api.Eq: c.sign == 0, api.Ne: c.sign != 0, api.Le: c.sign <= 0, api.Lt: c.sign < 0}[kind]
			if h, k := pure.Trivial(compared(kind, c.a, c.b)); h != holds || k != c.ok {
				t.Error(i, kind, h, k)
			}
		}
	}
}

func TestTrivialWrong(t *testing.T) {
	for _, a := range wrongAtoms() {
		if holds, known := pure.Trivial(a); holds || known {
			t.Error(a, holds, known)
		}
	}
}

func TestVars(t *testing.T) {
	for _, c := range []struct {
		l    string
		want []string
	}{
		{"", nil}, {"1 == 2", nil}, {"x == 1", []string{"x"}}, {"1 == x", []string{"x"}}, {"x == x", []string{"x"}}, {"x == null, x < 3", []string{"x"}},
		{"b < a", []string{"a", "b"}}, {"x + y < x, z == 1, 1 == z", []string{"x", "y", "z"}}, {"z == 1, b == a, 2 * (c - B) <= 0 * d, 1 < 2", []string{"B", "a", "b", "c", "d", "z"}}, {"x10 == x2, x == X, x_ != xx", []string{"X", "x", "x10", "x2", "x_", "xx"}},
	} {
		if l := pure.Vars(atoms(c.l)); !slices.Equal(l, c.want) {
			t.Error(c.l, ":", l)
		}
	}
}

// TestVarsOfAnything demands the variables of atoms that are not valid.
func TestVarsOfAnything(t *testing.T) {
	inside := api.Expr{Kind: 77, Name: "none", L: []api.Expr{{Kind: api.Num, Name: "none", L: []api.Expr{variable("in")}}, {Kind: api.Var, Name: "over", N: 3, L: []api.Expr{variable("under")}}}}
	var l []api.Atom
	for _, kind := range otherKinds {
		l = append(l, compared(kind, variable(""), variable("é")), compared(kind, inside, variable("$1")), compared(kind, variable("a b"), inside))
	}
	if got := pure.Vars(l); !slices.Equal(got, []string{"", "$1", "a b", "in", "over", "under", "é"}) {
		t.Error(got)
	}
	if got := pure.Vars([]api.Atom{{}, {A: api.Expr{Kind: api.Null, Name: "x"}}}); len(got) != 0 {
		t.Error(got)
	}
}
