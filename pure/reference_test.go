package pure_test

import (
	"math/big"
	"math/rand"
	"slices"
	"testing"

	"sepal/api"
	"sepal/pure"
	"sepal/tree"
)

// The reference of constraints computes with unlimited integers. It knows an expression by its value:
// the constant is the value where all names are 0, and a coefficient is what a name that is 1 adds to it.

func wide(n int) *big.Int { return big.NewInt(int64(n)) }

// exprValue returns the value of a valid expression where one is 1, and all other names are 0.
func exprValue(e api.Expr, one string) *big.Int {
	switch e.Kind {
	case api.Num:
		return wide(e.N)
	case api.Var:
		if e.Name == one {
			return wide(1)
		}
	case api.Add:
		return new(big.Int).Add(exprValue(e.L[0], one), exprValue(e.L[1], one))
	case api.Sub:
		return new(big.Int).Sub(exprValue(e.L[0], one), exprValue(e.L[1], one))
	case api.Mul:
		return new(big.Int).Mul(wide(e.N), exprValue(e.L[0], one))
	}
	return new(big.Int)
}

// refLinear returns the linear expression of an expression plus a constant, and whether its numbers are in range. (The expressions have few names.)
func refLinear(e api.Expr, c int) (api.Linear, bool) {
	constant := exprValue(e, "")
	whole := new(big.Int).Add(constant, wide(c))
	l, ok := api.Linear{C: int(whole.Int64())}, whole.CmpAbs(wide(most)) <= 0
	for _, name := range tree.Vars(e) {
		n := exprValue(e, name)
		n.Sub(n, constant)
		ok = ok && n.CmpAbs(wide(most)) <= 0
		if n.Sign() != 0 {
			l.L = append(l.L, api.Factor{Name: name, N: int(n.Int64())})
		}
	}
	return l, ok
}

// inRange reports whether the numbers of all parts of an expression are in range.
func inRange(e api.Expr) bool {
	_, ok := refLinear(e, 0)
	return ok && !slices.ContainsFunc(e.L, func(x api.Expr) bool { return !inRange(x) })
}

// refConstraints returns the constraints of a valid atom of another kind than Ne.
func refConstraints(a api.Atom) ([]api.Linear, api.Errno) {
	whole := difference(a.A, a.B)
	if !inRange(whole) {
		return nil, api.ErrBig
	}
	d, _ := refLinear(whole, 0)
	switch a.Kind {
	case api.Eq:
		minus, _ := refLinear(difference(a.B, a.A), 0)
		return []api.Linear{d, minus}, api.OK
	case api.Lt:
		d, ok := refLinear(whole, 1)
		if !ok {
			return nil, api.ErrBig
		}
		return []api.Linear{d}, api.OK
	}
	return []api.Linear{d}, api.OK
}

// numbers are those at which something changes.
var numbers = []int{0, 1, -1, 2, -2, 3, api.MaxInt, 1 << 25, -1 << 25, most / 2, -most / 2, most/2 + 1, most - 1, 1 - most, most, -most}

// anExpr returns an expression of at most this depth, whose numbers are small, or some of which are not.
func anExpr(r *rand.Rand, depth int, small bool) api.Expr {
	n := r.Intn(7) - 3
	if !small && r.Intn(4) > 0 {
		n = numbers[r.Intn(len(numbers))]
	}
	kind := r.Intn(8)
	if depth == 1 {
		kind %= 4
	}
	switch kind {
	case 0:
		return number(n)
	case 1:
		return api.Expr{Kind: api.Null}
	case 2, 3:
		return variable([]string{"x", "y", "z"}[r.Intn(3)])
	case 4:
		return multiple(n, anExpr(r, depth-1, small))
	case 5, 6:
		return sum(anExpr(r, depth-1, small), anExpr(r, depth-1, small))
	}
	return difference(anExpr(r, depth-1, small), anExpr(r, depth-1, small))
}

func anAtom(r *rand.Rand, depth int, small bool) api.Atom {
	return compared(kinds[r.Intn(len(kinds))], anExpr(r, depth, small), anExpr(r, depth, small))
}

// TestRandomConstraints compares Constraints, and Trivial, with the reference.
func TestRandomConstraints(t *testing.T) {
	r, count := rand.New(rand.NewSource(2)), map[api.Errno]int{}
	for range 20000 {
		a := anAtom(r, 4, r.Intn(3) == 0)
		want, err := []api.Linear(nil), api.ErrForm
		if a.Kind != api.Ne {
			want, err = refConstraints(a)
		}
		checkConstraints(t, "random", a, want, err)
		count[err]++
		atMost, err := refConstraints(compared(api.Le, a.A, a.B))
		if err != api.OK || len(atMost[0].L) > 0 {
			checkTrivial(t, "random", a, false, false)
		} else {
			c := atMost[0].C
			checkTrivial(t, "random", a, [...]bool{api.Eq: c == 0, api.Ne: c != 0, api.Le: c <= 0, api.Lt: c < 0}[a.Kind], true)
		}
	}
	if count[api.OK] < 5000 || count[api.ErrBig] < 1000 || count[api.ErrForm] < 2000 {
		t.Error("too few of some results:", count)
	}
}

// refCases returns the cases of a valid condition in the words of the definition, and false if one of the conditions of which it is made exceeds a limit.
func refCases(c api.Cond) ([][]api.Atom, bool) {
	var l [][]api.Atom
	switch c.Kind {
	case api.Not:
		return refCasesOfNot(c.L[0])
	case api.And:
		first, ok := refCases(c.L[0])
		second, ok2 := refCases(c.L[1])
		if !ok || !ok2 {
			return nil, false
		}
		for _, x := range first {
			for _, y := range second {
				l = append(l, slices.Concat(x, y))
			}
		}
	case api.Or:
		first, ok := refCases(c.L[0])
		second, ok2 := refCases(c.L[1])
		if !ok || !ok2 {
			return nil, false
		}
		l = slices.Concat(first, second)
	default:
		l = [][]api.Atom{{compared(c.Kind, c.A, c.B)}}
	}
	full := len(l) > pure.MaxCases || slices.ContainsFunc(l, func(x []api.Atom) bool { return len(x) > api.MaxList })
	return l, !full
}

func refCasesOfNot(c api.Cond) ([][]api.Atom, bool) {
	switch c.Kind {
	case api.Not:
		return refCases(c.L[0])
	case api.And:
		return refCases(or(not(c.L[0]), not(c.L[1])))
	case api.Or:
		return refCases(and(not(c.L[0]), not(c.L[1])))
	case api.Eq:
		return [][]api.Atom{{compared(api.Ne, c.A, c.B)}}, true
	case api.Ne:
		return [][]api.Atom{{compared(api.Eq, c.A, c.B)}}, true
	case api.Le:
		return [][]api.Atom{{compared(api.Lt, c.B, c.A)}}, true
	}
	return [][]api.Atom{{compared(api.Le, c.B, c.A)}}, true
}

// compareCases compares Cases with the reference, and returns the error.
func compareCases(t *testing.T, c api.Cond) api.Errno {
	t.Helper()
	l, err := pure.Cases(c)
	want, ok := refCases(c)
	wantErr := api.OK
	if !ok {
		want, wantErr = nil, api.ErrFull
	}
	if err != wantErr || !slices.EqualFunc(l, want, func(x, y []api.Atom) bool { return slices.EqualFunc(x, y, pure.Equal) }) {
		t.Fatal(c, ":", caseTexts(l), err, "instead of", caseTexts(want), wantErr)
	}
	return err
}

// smallConds returns all conditions of this depth or less over four comparisons.
func smallConds(depth int) []api.Cond {
	l := []api.Cond{condition("a == 1"), condition("b != 2"), condition("c <= 3"), condition("d < 4")}
	if depth == 1 {
		return l
	}
	parts := smallConds(depth - 1)
	for _, c := range parts {
		l = append(l, not(c))
		for _, d := range parts {
			l = append(l, and(c, d), or(c, d))
		}
	}
	return l
}

func TestSmallCases(t *testing.T) {
	for _, c := range smallConds(3) {
		compareCases(t, c)
		compareCases(t, not(c))
	}
}

// aCond returns a condition of at most this depth over small comparisons.
func aCond(r *rand.Rand, depth int) api.Cond {
	kind := r.Intn(9)
	switch {
	case depth == 1 || kind == 0:
		return asCond(anAtom(r, 2, true))
	case kind <= 2:
		return not(aCond(r, depth-1))
	case kind <= 6:
		return and(aCond(r, depth-1), aCond(r, depth-1))
	}
	return or(aCond(r, depth-1), aCond(r, depth-1))
}

func TestRandomCases(t *testing.T) {
	r, count := rand.New(rand.NewSource(3)), map[api.Errno]int{}
	for range 5000 {
		count[compareCases(t, aCond(r, 1+r.Intn(9)))]++
	}
	if count[api.OK] < 1000 || count[api.ErrFull] < 500 {
		t.Error("too few of some results:", count)
	}
}
