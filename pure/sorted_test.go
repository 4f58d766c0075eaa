package pure_test

import (
	"math/rand"
	"slices"
	"testing"

	"sepal/api"
	"sepal/pure"
)

// ascending are expressions in ascending order.
func ascending() []api.Expr {
	x, y, n0, n1 := variable("x"), variable("y"), number(0), number(1)
	two := func(kind, n int, name string, l ...api.Expr) api.Expr {
		return api.Expr{Kind: kind, N: n, Name: name, L: l}
	}
	return []api.Expr{
		// Kind comes before all others.
		{Kind: low}, {Kind: -1, N: 5, Name: "z", L: []api.Expr{y}}, {}, {L: []api.Expr{{}}}, {Name: "x"}, {N: 1},
		number(low), number(-most), number(-1), n0, two(api.Num, 0, "", n0), two(api.Num, 0, "a"), n1, two(api.Num, 1, "", n0, n0), number(9), number(10), number(most), number(huge),
		two(api.Var, -1, "z"), variable(""), variable("$1"), variable("X"), variable("Z"), variable("_"), variable("a"), variable("a1"), variable("a10"), variable("a2"), variable("ab"), variable("b"), x, two(api.Var, 0, "x", n0), two(api.Var, 0, "x", y), two(api.Var, 0, "x", n0, n0), variable("x1"), y, variable("é"), two(api.Var, 1, ""), two(api.Var, 1, "a"),
		{Kind: api.Null}, {Kind: api.Null, L: []api.Expr{y}}, {Kind: api.Null, Name: "a"}, {Kind: api.Null, N: 1},
		// The number of elements comes before the elements.
		{Kind: api.Add}, two(api.Add, 0, "", y), two(api.Add, 0, "", api.Expr{Kind: api.Add}), sum(n0, n0), sum(n0, n1), sum(n0, x), sum(n1, n0), sum(n1, y), sum(x, n0), sum(x, x), sum(x, y), sum(y, n0), sum(y, x), sum(y, sum(n0, n0)), sum(sum(n0, n1), n0), sum(sum(n0, x), n0), sum(sum(n0, x), n1), sum(sum(n1, n0), n0), two(api.Add, 0, "", n0, n0, n0), two(api.Add, 0, "", n0, n0, n1),
		// The name, and before it the number, comes before the elements.
		two(api.Add, 0, "a"), two(api.Add, 0, "b"), two(api.Add, 1, ""),
		difference(n0, n0), difference(x, y), multiple(-1, y), multiple(0, x), multiple(0, y), multiple(0, multiple(-5, x)), multiple(2, n0), multiple(2, x), multiple(10, n0),
		{Kind: 7}, {Kind: huge},
	}
}

// checkSorted demands the atoms of a list in ascending order, each once.
func checkSorted(t *testing.T, l, want []api.Atom) {
	t.Helper()
	if got := pure.Sorted(l); !slices.EqualFunc(got, want, pure.Equal) {
		t.Error(got, "instead of", want)
	}
}

// TestOrderOfExpressions demands the order of any two expressions, on each side, if the rest is the same.
func TestOrderOfExpressions(t *testing.T) {
	l := ascending()
	for i, e := range l {
		for j, f := range l {
			for _, at := range []func(e api.Expr) api.Atom{
				func(e api.Expr) api.Atom { return compared(api.Le, e, variable("x")) },
				func(e api.Expr) api.Atom { return compared(api.Le, variable("x"), e) },
				func(e api.Expr) api.Atom { return compared(0, e, e) },
			} {
				want := []api.Atom{at(e), at(f)}
				if i > j {
					want[0], want[1] = want[1], want[0]
				}
				if i == j {
					want = want[:1]
				}
				checkSorted(t, []api.Atom{at(e), at(f)}, want)
			}
		}
	}
}

// TestOrderOfAtoms demands that Kind comes before A, and A before B.
func TestOrderOfAtoms(t *testing.T) {
	few := []api.Expr{number(0), number(1), variable("x"), sum(variable("x"), number(0))}
	var want []api.Atom
	for _, kind := range []int{low, -1, 0, api.Eq, api.Ne, api.Le, api.Lt, api.Not, huge} {
		for _, a := range few {
			for _, b := range few {
				want = append(want, compared(kind, a, b))
			}
		}
	}
	checkSorted(t, want, want)
	for i, a := range want {
		for j, b := range want[:i] {
			checkSorted(t, []api.Atom{a, b, a}, []api.Atom{want[j], want[i]})
		}
	}
	r := rand.New(rand.NewSource(1))
	for range 200 {
		var l []api.Atom
		for range 3 {
			l = append(l, want...)
		}
		r.Shuffle(len(l), func(i, j int) { l[i], l[j] = l[j], l[i] })
		checkSorted(t, l, want)
	}
}

func TestSorted(t *testing.T) {
	for _, c := range []struct{ l, want string }{
		{"", ""}, {"x == 1", "x == 1"}, {"x == 1, x == 1, x == 1", "x == 1"}, {"x < 1, x <= 1, x != 1, x == 1", "x == 1, x != 1, x <= 1, x < 1"},
		{"x + y < x, z == 1, 1 == z, x + y < x", "1 == z, z == 1, x + y < x"}, {"x == 2, x == 10, x == 1", "x == 1, x == 2, x == 10"}, {"b == 1, a == 2", "a == 2, b == 1"}, {"x == null, x == y, x == 5", "x == 5, x == y, x == null"}, {"x == y, y == x, x == y, y == x", "x == y, y == x"}, {"x == 0, x == null", "x == 0, x == null"},
		{"x10 < 1, x2 < 1, x < 1, X < 1", "X < 1, x < 1, x10 < 1, x2 < 1"}, {"2 * x < 1, x - y < 1, x + y < 1, 1 * z < 1", "x + y < 1, x - y < 1, 1 * z < 1, 2 * x < 1"},
	} {
		if got := texts(pure.Sorted(atoms(c.l))); got != c.want {
			t.Error(c.l, ":", got)
		}
	}
	if got := pure.Sorted(nil); len(got) != 0 {
		t.Error(got)
	}
	// Lists that are nil and empty make no difference.
	empty := compared(api.Eq, api.Expr{Kind: api.Num, L: []api.Expr{}}, number(1))
	if got := pure.Sorted([]api.Atom{empty, atom("0 == 1"), empty}); len(got) != 1 || !pure.Equal(got[0], empty) {
		t.Error(got)
	}
}
