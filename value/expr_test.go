package value_test

import (
	"math"
	"math/big"
	"testing"

	"sepal/api"
)

// example is the store of the chapter's examples.
func example() []api.Binding { return []api.Binding{bind("a", 2), bind("b", -3)} }

// bounds is a store with values at the bounds.
func bounds() []api.Binding {
	return []api.Binding{bind("$s", 7), bind("least", -api.MaxInt), bind("most", api.MaxInt), bind("zero", 0)}
}

func TestExprKinds(t *testing.T) {
	s := example()
	for _, c := range []struct {
		e    api.Expr
		want int
	}{
		{num(0), 0},
		{num(41), 41},
		{num(-41), -41},
		{variable("a"), 2},
		{variable("b"), -3},
		{null(), 0},
		{add(variable("a"), variable("b")), -1},
		{sub(variable("a"), variable("b")), 5},
		{sub(variable("b"), variable("a")), -5},
		{mul(4, variable("b")), -12},
		{mul(-4, variable("b")), 12},
		{mul(0, variable("b")), 0},
		{add(null(), num(6)), 6},
		{sub(sub(num(1), num(2)), num(4)), -5},
		{sub(num(1), sub(num(2), num(4))), 3},
		{mul(2, mul(3, add(num(1), variable("a")))), 18},
		{sub(variable("a"), mul(2, variable("b"))), 8},
	} {
		checkExpr(t, s, c.e, c.want, api.OK)
	}
	checkExpr(t, nil, add(num(3), null()), 3, api.OK)
	checkExpr(t, bounds(), add(variable("$s"), variable("zero")), 7, api.OK)
}

func TestExprNone(t *testing.T) {
	s := example()
	for _, e := range []api.Expr{
		variable("c"), variable(unknown), variable("$a"), variable("A"), variable("aa"),
		add(variable("a"), variable("c")), add(variable("c"), variable("a")), sub(num(1), variable("c")), sub(variable("c"), num(1)),
		mul(2, variable("c")), mul(0, variable("c")), mul(2, add(num(1), mul(3, variable("c")))),
	} {
		checkExpr(t, s, e, 0, api.ErrNone)
		checkExpr(t, nil, e, 0, api.ErrNone)
	}
	checkExpr(t, nil, variable("a"), 0, api.ErrNone)
}

func TestExprBig(t *testing.T) {
	const most = api.MaxInt
	for _, c := range []struct {
		e    api.Expr
		want int
		err  api.Errno
	}{
		{num(most), most, api.OK},
		{num(-most), -most, api.OK},
		{num(most + 1), 0, api.ErrBig},
		{num(-most - 1), 0, api.ErrBig},
		{num(api.MaxCoef), 0, api.ErrBig},
		{num(-api.MaxCoef), 0, api.ErrBig},
		{variable("most"), most, api.OK},
		{variable("least"), -most, api.OK},
		{add(variable("most"), num(0)), most, api.OK},
		{add(variable("most"), num(1)), 0, api.ErrBig},
		{add(num(1), variable("most")), 0, api.ErrBig},
		{add(variable("least"), num(0)), -most, api.OK},
		{add(variable("least"), num(-1)), 0, api.ErrBig},
		{add(variable("most"), variable("least")), 0, api.OK},
		{add(variable("most"), variable("most")), 0, api.ErrBig},
		{sub(variable("least"), num(0)), -most, api.OK},
		{sub(variable("least"), num(1)), 0, api.ErrBig},
		{sub(variable("most"), num(-1)), 0, api.ErrBig},
		{sub(num(-1), variable("most")), 0, api.ErrBig},
		{sub(null(), variable("least")), most, api.OK},
		{sub(num(1), variable("least")), 0, api.ErrBig},
		{sub(variable("most"), variable("most")), 0, api.OK},
		{mul(1, variable("most")), most, api.OK},
		{mul(-1, variable("most")), -most, api.OK},
		{mul(2, num(most/2)), most, api.OK},
		{mul(-2, num(most/2)), -most, api.OK},
		{mul(2, num(most/2+1)), 0, api.ErrBig},
		{mul(-2, num(most/2+1)), 0, api.ErrBig},
		{mul(1<<10, num(1<<10)), most, api.OK},
		{mul(1<<10, num(1<<10+1)), 0, api.ErrBig},
		{mul(1<<10+1, num(-1<<10)), 0, api.ErrBig},
		{mul(most, variable("most")), 0, api.ErrBig},
		{mul(most, num(1)), most, api.OK},
		{mul(-most, num(1)), -most, api.OK},
		{mul(most, num(-1)), -most, api.OK},
		{mul(most+1, num(1)), 0, api.ErrBig},
		{mul(most+1, null()), 0, api.ErrBig},
		{mul(-most-1, null()), 0, api.ErrBig},
		{mul(most, null()), 0, api.OK},
		{mul(-most, variable("zero")), 0, api.OK},
		{mul(api.MaxCoef, null()), 0, api.ErrBig},
		{mul(-api.MaxCoef, variable("most")), 0, api.ErrBig},
		{mul(api.MaxCoef, num(1<<14)), 0, api.ErrBig}, // the product of these is 0 in 64 bits
		{mul(0, num(most+1)), 0, api.ErrBig},
		{mul(0, tooBig()), 0, api.ErrBig},
		{sub(num(most+1), num(1)), 0, api.ErrBig},
		{sub(tooBig(), num(1)), 0, api.ErrBig},
		{sub(tooBig(), tooBig()), 0, api.ErrBig},
		{add(num(-1), tooBig()), 0, api.ErrBig},
	} {
		checkExpr(t, bounds(), c.e, c.want, c.err)
	}
}

// TestExprOrder has expressions in which several computations have errors.
func TestExprOrder(t *testing.T) {
	for _, build := range []func(a, b api.Expr) api.Expr{add, sub} {
		none, big := variable(unknown), tooBig()
		checkExpr(t, bounds(), build(none, big), 0, api.ErrNone)
		checkExpr(t, bounds(), build(big, none), 0, api.ErrBig)
		checkExpr(t, bounds(), build(num(api.MaxInt+1), none), 0, api.ErrBig)
		checkExpr(t, bounds(), build(build(variable("most"), none), big), 0, api.ErrNone)
		checkExpr(t, bounds(), build(build(num(1), big), none), 0, api.ErrBig)
		checkExpr(t, bounds(), build(mul(0, big), none), 0, api.ErrBig)
		checkExpr(t, bounds(), build(mul(0, none), big), 0, api.ErrNone)
		checkExpr(t, bounds(), build(mul(api.MaxInt+1, null()), none), 0, api.ErrBig)
	}
	// The number of a product is looked at after its element.
	checkExpr(t, bounds(), mul(api.MaxInt+1, variable(unknown)), 0, api.ErrNone)
	checkExpr(t, bounds(), mul(api.MaxCoef, add(variable(unknown), tooBig())), 0, api.ErrNone)
	checkExpr(t, bounds(), mul(api.MaxCoef, add(tooBig(), variable(unknown))), 0, api.ErrBig)
}

// nested returns an expression of this depth, with the value of e.
func nested(e api.Expr, depth int) api.Expr {
	for range depth - 1 {
		e = mul(1, e)
	}
	return e
}

// invalidExprs returns trees that are no valid expressions.
func invalidExprs() []api.Expr {
	cycle := []api.Expr{{}, num(1)}
	cycle[0] = api.Expr{Kind: api.Add, L: cycle}
	l := []api.Expr{
		{}, {Kind: -1}, {Kind: 7}, {Kind: math.MaxInt}, {Kind: math.MinInt},
		num(api.MaxCoef + 1), num(math.MinInt), mul(api.MaxCoef+1, num(0)), mul(math.MaxInt, null()),
		variable(""), variable("int"), variable("a b"), variable("$"), variable("abcdefghijklmnopqrstu"),
		{Kind: api.Num, Name: "a"}, {Kind: api.Var, Name: "a", N: 1}, {Kind: api.Null, N: 1},
		{Kind: api.Null, L: []api.Expr{num(1)}}, {Kind: api.Num, L: []api.Expr{num(1)}}, {Kind: api.Var, Name: "a", L: []api.Expr{num(1)}},
		{Kind: api.Add}, {Kind: api.Sub}, {Kind: api.Mul}, {Kind: api.Add, L: []api.Expr{num(1)}}, {Kind: api.Sub, L: []api.Expr{num(1)}},
		{Kind: api.Add, L: []api.Expr{num(1), num(2), num(3)}}, {Kind: api.Sub, L: []api.Expr{num(1), num(2), num(3)}}, {Kind: api.Mul, L: []api.Expr{num(1), num(2)}},
		nested(num(1), api.MaxDepth+1), nested(num(1), 1000), cycle[0],
	}
	for _, e := range l[:12] {
		l = append(l, add(e, num(1)), add(variable(unknown), e), sub(tooBig(), e), mul(2, e))
	}
	return l
}

func TestExprArg(t *testing.T) {
	checkExpr(t, example(), nested(variable("a"), api.MaxDepth), 2, api.OK)
	for _, e := range invalidExprs() {
		checkExpr(t, example(), e, 0, api.ErrArg)
		checkExpr(t, nil, e, 0, api.ErrArg)
	}
	for _, s := range invalidStores() {
		for _, e := range []api.Expr{num(1), null(), variable("a"), variable(unknown), tooBig(), num(api.MaxInt + 1), mul(api.MaxCoef, null()), {}} {
			checkExpr(t, s, e, 0, api.ErrArg)
		}
	}
}

// outcome is an expression with its value, or the first error of its computation.
type outcome struct {
	e    api.Expr
	want int
	err  api.Errno
}

// then returns the outcome of an expression whose elements have the errors a and b and which itself has this value.
func then(e api.Expr, a, b api.Errno, v *big.Int) outcome {
	switch {
	case a != api.OK:
		return outcome{e, 0, a}
	case b != api.OK:
		return outcome{e, 0, b}
	case v.CmpAbs(big.NewInt(api.MaxInt)) > 0:
		return outcome{e, 0, api.ErrBig}
	}
	return outcome{e, int(v.Int64()), api.OK}
}

func integer(n int) *big.Int { return big.NewInt(int64(n)) }

// leaves returns the outcomes of expressions without elements in the store of the bounds.
func leaves() []outcome {
	l := []outcome{{null(), 0, api.OK}, {variable(unknown), 0, api.ErrNone}, {variable("$most"), 0, api.ErrNone}}
	for _, b := range bounds() {
		l = append(l, outcome{variable(b.Name), b.Value, api.OK})
	}
	for _, n := range []int{0, 1, -1, 2, 1023, api.MaxInt, api.MaxInt + 1, -api.MaxInt - 1, api.MaxCoef} {
		l = append(l, then(num(n), api.OK, api.OK, integer(n)))
	}
	return l
}

// sums returns the outcomes of all sums and differences of these expressions.
func sums(a, b []outcome) []outcome {
	var l []outcome
	for _, x := range a {
		for _, y := range b {
			l = append(l, then(add(x.e, y.e), x.err, y.err, new(big.Int).Add(integer(x.want), integer(y.want))))
			l = append(l, then(sub(x.e, y.e), x.err, y.err, new(big.Int).Sub(integer(x.want), integer(y.want))))
		}
	}
	return l
}

// products returns the outcomes of products of these expressions.
func products(a []outcome) []outcome {
	var l []outcome
	for _, x := range a {
		for _, n := range []int{0, 1, -1, 2, 1025, api.MaxInt, -api.MaxInt, api.MaxInt + 1, -api.MaxInt - 1, api.MaxCoef, -api.MaxCoef} {
			number := then(num(n), api.OK, api.OK, integer(n))
			l = append(l, then(mul(n, x.e), x.err, number.err, new(big.Int).Mul(integer(n), integer(x.want))))
		}
	}
	return l
}

// outcomes returns expressions of a depth up to 3, among which are all sums, differences, and products of the leaves.
func outcomes() []outcome {
	one := leaves()
	two := append(sums(one, one), products(one)...)
	three := append(sums(two, one), sums(one, two)...)
	return append(append(append(one, two...), three...), products(two)...)
}

func TestExprAgainstDefinition(t *testing.T) {
	s := bounds()
	count := map[api.Errno]int{}
	for _, o := range outcomes() {
		checkExpr(t, s, o.e, o.want, o.err)
		count[o.err]++
	}
	if count[api.OK] < 1000 || count[api.ErrNone] < 1000 || count[api.ErrBig] < 1000 || len(count) != 3 {
		t.Error(count)
	}
}
