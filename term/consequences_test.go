package term_test

import (
	"math/big"
	"math/rand"
	"slices"
	"testing"

	"sepal/api"
	"sepal/term"
)

// TestSameForm demands that expressions have the same normal form exactly if they have the same values.
// Functions that are linear have the same values if they have them at 0 and where one name is 1, and otherwise differ at one of these.
func TestSameForm(t *testing.T) {
	l := small(2)
	places := []values{nil, {"x": wide(1)}, {"a": wide(1)}, {"a": wide(-4), "x": wide(7)}, {"a": wide(most), "x": wide(-3)}}
	for _, a := range l {
		for _, b := range l {
			same := !slices.ContainsFunc(places, func(v values) bool { return exprValue(a, v).Cmp(exprValue(b, v)) != 0 })
			la, err := term.Of(a)
			lb, f := term.Of(b)
			if err != api.OK || f != api.OK || term.Equal(la, lb) != same {
				t.Fatal(a, b, text(la), text(lb))
			}
		}
	}
}

// TestFormHasValue demands that an expression and its normal form have the same values.
func TestFormHasValue(t *testing.T) {
	r := rand.New(rand.NewSource(4))
	for range 10000 {
		e := anExpr(r, 6)
		l, err := term.Of(e)
		v := values{}
		for _, name := range someNames {
			v[name] = wide(choose(r))
		}
		if err == api.OK && linearValue(l, v).Cmp(exprValue(e, v)) != 0 {
			t.Fatal(e, text(l))
		}
	}
}

// TestFormOfExpr demands that the normal form of the expression of a linear expression is the latter.
func TestFormOfExpr(t *testing.T) {
	l := smallLinears("$a", "B", "x", "x1")
	for n := range api.MaxDepth - 2 {
		l = append(l, long(0, n), long(-9, n))
	}
	r := rand.New(rand.NewSource(5))
	for range 5000 {
		l = append(l, aLinear(r))
	}
	count := 0
	for _, a := range l {
		e := term.Expr(a)
		if isZero(e) {
			continue
		}
		count++
		if b, err := term.Of(e); err != api.OK || !term.Equal(a, b) {
			t.Fatal(text(a), text(b), err)
		}
	}
	if count < 2000 {
		t.Error("only", count, "expressions")
	}
}

// TestAdditionCommutes demands that the order of sums does not matter, as long as nothing is too big.
func TestAdditionCommutes(t *testing.T) {
	r, count := rand.New(rand.NewSource(6)), 0
	for range 20000 {
		a, b, c := aLinear(r), aLinear(r), aLinear(r)
		ab, err := term.Add(a, b)
		if ba, f := term.Add(b, a); !term.Equal(ab, ba) || err != f {
			t.Fatal(text(a), "and", text(b), ":", text(ab), err, text(ba), f)
		}
		left, err1 := term.Add(ab, c)
		bc, err2 := term.Add(b, c)
		right, err3 := term.Add(a, bc)
		if err != api.OK || err1 != api.OK || err2 != api.OK || err3 != api.OK {
			continue
		}
		count++
		if !term.Equal(left, right) {
			t.Fatal(text(a), "and", text(b), "and", text(c), ":", text(left), text(right))
		}
	}
	if count < 1000 {
		t.Error("only", count, "sums")
	}
}

// at returns the value of a linear expression in a store, and whether there is one.
func at(l api.Linear, s []api.Binding) (*big.Int, bool) {
	n, ok := term.Eval(l, s)
	return wide(n), ok
}

// TestEvalCommutes demands that values of sums, multiples, and replacements are those that are computed from the values of their parts.
func TestEvalCommutes(t *testing.T) {
	r := rand.New(rand.NewSource(7))
	var sums, multiples, replaced int
	for range 40000 {
		a, b, n := aLinear(r), aLinear(r), choose(r)
		var s []api.Binding
		for _, name := range allNames(a, b, lin("1 x")) {
			s = append(s, api.Binding{Name: name, Value: r.Intn(5) - 2})
		}
		va, okA := at(a, s)
		vb, okB := at(b, s)
		if l, err := term.Add(a, b); err == api.OK {
			if v, ok := at(l, s); ok && okA && okB && v.Cmp(new(big.Int).Add(va, vb)) != 0 {
				t.Fatal(text(a), "and", text(b), "in", s)
			}
			sums++
		}
		if l, err := term.Scale(a, n); err == api.OK {
			if v, ok := at(l, s); ok && okA && v.Cmp(new(big.Int).Mul(wide(n), va)) != 0 {
				t.Fatal(text(a), "times", n, "in", s)
			}
			multiples++
		}
		if l, err := term.Replace(a, "x", b); err == api.OK && okB {
			// The binding before the others is that which counts.
			want, okWant := at(a, slices.Concat([]api.Binding{{Name: "x", Value: int(vb.Int64())}}, s))
			if v, ok := at(l, s); ok && okWant && v.Cmp(want) != 0 {
				t.Fatal(text(a), "with", text(b), "in", s)
			}
			replaced++
		}
	}
	if sums < 5000 || multiples < 5000 || replaced < 5000 {
		t.Error("too few of some:", sums, multiples, replaced)
	}
}

// TestLaws demands what follows for special numbers and names.
func TestLaws(t *testing.T) {
	r := rand.New(rand.NewSource(8))
	for range 5000 {
		a, b := aLinear(r), aLinear(r)
		l, err := term.Add(a, api.Linear{})
		check(t, "nothing added", l, err, text(a), api.OK)
		l, err = term.Scale(a, 1)
		check(t, "once", l, err, text(a), api.OK)
		minus, err := term.Scale(a, -1)
		check(t, "minus", minus, err, text(minus), api.OK)
		l, err = term.Add(a, minus)
		check(t, "a - a", l, err, "0", api.OK)
		l, err = term.Replace(a, "x", lin("1 x"))
		check(t, "x by itself", l, err, text(a), api.OK)
		l, err = term.Replace(a, "none", b)
		check(t, "none", l, err, text(a), api.OK)
		l, err = term.Replace(lin("1 none"), "none", b)
		check(t, "all", l, err, text(b), api.OK)
	}
}
