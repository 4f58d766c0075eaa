package pure_test

import (
	"testing"

	"sepal/api"
	"sepal/pure"
)

func TestNegate(t *testing.T) {
	for _, c := range []struct{ a, want string }{
		{"x == 2", "x != 2"}, {"x != 2", "x == 2"}, {"x <= 2", "2 < x"}, {"x < 2", "2 <= x"}, {"2 <= x", "x < 2"}, {"2 < x", "x <= 2"},
		{"x == x", "x != x"}, {"x < x", "x <= x"}, {"1 <= 2", "2 < 1"}, {"null == 0", "null != 0"},
		{"x + 2 * y < null - z", "null - z <= x + 2 * y"}, {"3 * (x - 1) <= y + y", "y + y < 3 * (x - 1)"}, {"x + 1 != y - x", "x + 1 == y - x"},
	} {
		a := pure.Negate(atom(c.a))
		checkAtom(t, c.a, a, atom(c.want))
		checkAtom(t, "twice "+c.a, pure.Negate(a), atom(c.a))
	}
}

// TestNegateAnything demands that sides, valid or not, stay as they are.
func TestNegateAnything(t *testing.T) {
	sides := append(wrongExprs(), variable("x"), number(most), tall(api.MaxDepth, number(0)), multiple(most, number(most)))
	for i, e := range sides {
		f := sides[(i+1)%len(sides)]
		checkAtom(t, "Eq", pure.Negate(compared(api.Eq, e, f)), compared(api.Ne, e, f))
		checkAtom(t, "Ne", pure.Negate(compared(api.Ne, e, f)), compared(api.Eq, e, f))
		checkAtom(t, "Le", pure.Negate(compared(api.Le, e, f)), compared(api.Lt, f, e))
		checkAtom(t, "Lt", pure.Negate(compared(api.Lt, e, f)), compared(api.Le, f, e))
		for _, kind := range otherKinds {
			checkAtom(t, "another kind", pure.Negate(compared(kind, e, f)), api.Atom{})
		}
	}
}
