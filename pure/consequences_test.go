package pure_test

import (
	"math/rand"
	"slices"
	"testing"

	"sepal/api"
	"sepal/pure"
	"sepal/term"
	"sepal/value"
)

// stores are those in which x, y, and z have small values.
func stores() [][]api.Binding {
	var l [][]api.Binding
	for x := -2; x <= 3; x++ {
		for y := -2; y <= 2; y++ {
			for z := 0; z <= 1; z++ {
				l = append(l, []api.Binding{{Name: "x", Value: x}, {Name: "y", Value: y}, {Name: "z", Value: z}})
			}
		}
	}
	return l
}

// holds reports whether all atoms hold in a store.
func holds(t *testing.T, s []api.Binding, l ...api.Atom) bool {
	t.Helper()
	ok, err := value.All(s, l)
	if err != api.OK {
		t.Fatal(texts(l), s, err)
	}
	return ok
}

// constraintsHold reports whether linear expressions are at most 0 in a store.
func constraintsHold(t *testing.T, s []api.Binding, l []api.Linear) bool {
	t.Helper()
	return !slices.ContainsFunc(l, func(c api.Linear) bool {
		n, ok := term.Eval(c, s)
		if !ok {
			t.Fatal(c, s)
		}
		return n > 0
	})
}

// TestMeaningOfAtoms demands that an atom holds exactly if its opposite does not, and if all of its constraints hold, and what Trivial says of it.
func TestMeaningOfAtoms(t *testing.T) {
	r := rand.New(rand.NewSource(4))
	trivial := map[bool]int{}
	for range 2000 {
		a := anAtom(r, 3, true)
		opposite := pure.Negate(a)
		l, err := pure.Constraints(a)
		always, known := pure.Trivial(a)
		trivial[known]++
		some := map[bool]bool{}
		for _, s := range stores() {
			now := holds(t, s, a)
			some[now] = true
			if holds(t, s, opposite) == now {
				t.Fatal(text(a), "and", text(opposite), "in", s)
			}
			if err == api.OK && constraintsHold(t, s, l) != now || (err == api.OK) != (a.Kind != api.Ne) {
				t.Fatal(text(a), l, err, "in", s)
			}
		}
		if known && some[!always] {
			t.Fatal(text(a), "holds, or does not")
		}
	}
	if trivial[true] < 300 || trivial[false] < 1000 {
		t.Error("too few of some:", trivial)
	}
}

// TestMeaningOfConditions demands that a condition holds exactly if all atoms of one of its cases do.
func TestMeaningOfConditions(t *testing.T) {
	r := rand.New(rand.NewSource(5))
	count := map[bool]int{}
	for range 1500 {
		c := aCond(r, 1+r.Intn(5))
		l, err := pure.Cases(c)
		if err != api.OK {
			continue
		}
		for _, s := range stores() {
			want, err := value.Cond(s, c)
			got := slices.ContainsFunc(l, func(x []api.Atom) bool { return holds(t, s, x...) })
			if got != want || err != api.OK {
				t.Fatal(c, ":", caseTexts(l), "in", s)
			}
			count[got]++
		}
	}
	if count[true] < 5000 || count[false] < 5000 {
		t.Error("too few of some:", count)
	}
}

// TestMeaningOfReplacing demands that replacing a variable by an expression is evaluating with the value of the expression.
func TestMeaningOfReplacing(t *testing.T) {
	r := rand.New(rand.NewSource(6))
	for range 700 {
		a, by := anAtom(r, 3, true), anExpr(r, 3, true)
		for _, name := range []string{"x", "y", "z", "none"} {
			b := pure.Replace(a, name, by)
			for _, s := range stores() {
				n, err := value.Expr(s, by)
				if err != api.OK || holds(t, s, b) != holds(t, value.Set(s, name, n), a) {
					t.Fatal(text(a), "and", text(b), "in", s, err)
				}
			}
			checkAtom(t, "a variable by itself", pure.Replace(a, name, variable(name)), a)
			checkVarsOfReplaced(t, a, b, name, by)
		}
	}
}

func checkVarsOfReplaced(t *testing.T, a, b api.Atom, name string, by api.Expr) {
	t.Helper()
	want := pure.Vars([]api.Atom{a})
	if i := slices.Index(want, name); i >= 0 {
		want = append(slices.Delete(want, i, i+1), pure.Vars([]api.Atom{{A: by}})...)
		slices.Sort(want)
		want = slices.Compact(want)
	}
	if got := pure.Vars([]api.Atom{b}); !slices.Equal(got, want) {
		t.Fatal(text(a), "and", text(b), ":", got, "instead of", want)
	}
}

// TestMeaningOfSorting demands that a sorted list has the same atoms, in an order that depends on nothing else.
func TestMeaningOfSorting(t *testing.T) {
	r := rand.New(rand.NewSource(7))
	for range 1000 {
		var l []api.Atom
		for range r.Intn(12) {
			l = append(l, anAtom(r, 2, true))
		}
		l = append(l, l[len(l)/2:]...)
		sorted := pure.Sorted(l)
		within := func(l []api.Atom, a api.Atom) bool {
			return slices.ContainsFunc(l, func(b api.Atom) bool { return pure.Equal(a, b) })
		}
		for i, a := range sorted {
			if !within(l, a) || within(sorted[:i], a) {
				t.Fatal(texts(l), ":", texts(sorted))
			}
		}
		for _, a := range l {
			if !within(sorted, a) {
				t.Fatal(texts(l), ":", texts(sorted))
			}
		}
		r.Shuffle(len(l), func(i, j int) { l[i], l[j] = l[j], l[i] })
		checkSorted(t, l, sorted)
		checkSorted(t, sorted, sorted)
	}
}
