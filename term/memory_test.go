package term_test

import (
	"reflect"
	"testing"

	"sepal/api"
	"sepal/term"
)

// roomy returns a linear expression whose list has room behind its end, in which something stands.
func roomy(text string) api.Linear {
	l := lin(text)
	n := len(l.L)
	l.L = append(l.L, api.Factor{Name: "behind", N: 77}, api.Factor{Name: "a", N: 78})[:n]
	return l
}

// whole returns the list of a linear expression up to its capacity.
func whole(l api.Linear) []api.Factor { return append([]api.Factor{}, l.L[:cap(l.L)]...) }

// results returns what the functions return for a, b, and a name.
func results(a, b api.Linear, name string) []api.Linear {
	var l []api.Linear
	sum, _ := term.Add(a, b)
	l = append(l, sum)
	for _, n := range []int{0, 1, -2} {
		multiple, _ := term.Scale(a, n)
		l = append(l, multiple)
	}
	replaced, _ := term.Replace(a, name, b)
	return append(l, replaced)
}

// TestNothingModified demands that arguments stay as they are, also behind their ends, and that results can be changed without changing an argument, or a later result.
func TestNothingModified(t *testing.T) {
	texts := []string{"0", "5", "1 x", "-1 x 1", "2 x -1 y 3", "1 b 1 x 1 y 1 z", "-2 x 1 y", "1 a"}
	for _, p := range texts {
		for _, q := range texts {
			for _, name := range []string{"x", "y", "z", "none"} {
				a, b := roomy(p), roomy(q)
				beforeA, beforeB := whole(a), whole(b)
				got, want := results(a, b, name), results(lin(p), lin(q), name)
				checkSame(t, got, want)
				for _, l := range got {
					l.L = l.L[:cap(l.L)]
					for i := range l.L {
						l.L[i] = api.Factor{Name: "overwritten", N: 99}
					}
				}
				checkSame(t, results(a, b, name), want)
				if !reflect.DeepEqual(whole(a), beforeA) || !reflect.DeepEqual(whole(b), beforeB) {
					t.Error(p, "and", q, "have changed")
				}
			}
		}
	}
}

func checkSame(t *testing.T, got, want []api.Linear) {
	t.Helper()
	for i, l := range got {
		if !term.Equal(l, want[i]) {
			t.Error(i, text(l), "instead of", text(want[i]))
		}
	}
}

// TestExpressionsStay demands that Of, Expr, Eval, and Gcd modify nothing, and that an expression shares no memory with another one.
func TestExpressionsStay(t *testing.T) {
	e := expression(t, "3 * (x - y) + x + 2 - z")
	first, _ := term.Of(e)
	second, _ := term.Of(e)
	first.L[0] = api.Factor{Name: "overwritten", N: 99}
	if !reflect.DeepEqual(e, expression(t, "3 * (x - y) + x + 2 - z")) || text(second) != "4 x -3 y -1 z 2" {
		t.Error("Of", e, text(second))
	}
	a, s := roomy("4 x -3 y 2"), bindings("1 y 2 x 3 x")
	before := whole(a)
	one, two := term.Expr(a), term.Expr(a)
	overwrite(one)
	if !reflect.DeepEqual(two, term.Expr(lin("4 x -3 y 2"))) {
		t.Error("Expr", two)
	}
	n, _ := term.Eval(a, s)
	if d := term.Gcd(a); n != 7 || d != 1 || !term.Valid(a) || !term.Equal(a, lin("4 x -3 y 2")) {
		t.Error(n, d)
	}
	if !reflect.DeepEqual(s, bindings("1 y 2 x 3 x")) || !reflect.DeepEqual(whole(a), before) {
		t.Error("an argument has changed", s, whole(a))
	}
}

// overwrite changes all nodes of an expression.
func overwrite(e api.Expr) {
	for i, x := range e.L {
		overwrite(x)
		e.L[i] = api.Expr{Kind: 99, Name: "overwritten"}
	}
}

// TestOnce demands that an expression in which no node is used twice is made: each can be changed alone.
func TestOnce(t *testing.T) {
	e := term.Expr(lin("4 x -3 y 2 z 2"))
	e.L[0].L[0].L[0].L[0].Name = "w"
	want := expression(t, "4 * w + -3 * y + 2 * z + 2")
	if !reflect.DeepEqual(e, want) {
		t.Error(e)
	}
}
