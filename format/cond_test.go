package format_test

import (
	"strings"
	"testing"

	"sepal/api"
	"sepal/format"
	"sepal/parse"
	"sepal/tree"
)

func not(c api.Cond) api.Cond    { return join(api.Not, c) }
func and(a, b api.Cond) api.Cond { return join(api.And, a, b) }
func or(a, b api.Cond) api.Cond  { return join(api.Or, a, b) }

func TestCond(t *testing.T) {
	x, y := name("x"), name("y")
	a, b, c, d := compare(api.Eq, x, y), compare(api.Ne, x, null()), compare(api.Le, num(-1), y), compare(api.Lt, mul(2, x), sub(x, add(y, num(1))))
	const A, B, C, D = "x == y", "x != null", "-1 <= y", "2 * x < x - (y + 1)"
	for want, x := range map[string]api.Cond{
		A: a, B: b, C: c, D: d, "$x == x": compare(api.Eq, name("$x"), x),
		"!(" + A + ")": not(a), "!(!(" + B + "))": not(not(b)), "!(" + A + " && " + B + ")": not(and(a, b)), "!(" + A + " || " + B + ")": not(or(a, b)),
		A + " && " + B: and(a, b), A + " || " + B: or(a, b), "!(" + A + ") && !(" + B + ")": and(not(a), not(b)), "!(" + A + ") || !(" + B + ")": or(not(a), not(b)),
		A + " && " + B + " && " + C: and(and(a, b), c), A + " && (" + B + " && " + C + ")": and(a, and(b, c)), A + " || " + B + " || " + C: or(or(a, b), c), A + " || (" + B + " || " + C + ")": or(a, or(b, c)),
		A + " && " + B + " || " + C: or(and(a, b), c), A + " || " + B + " && " + C: or(a, and(b, c)), "(" + A + " || " + B + ") && " + C: and(or(a, b), c), A + " && (" + B + " || " + C + ")": and(a, or(b, c)),
		"(" + A + " || " + B + ") && (" + C + " || " + D + ")": and(or(a, b), or(c, d)), A + " && " + B + " && (" + C + " && " + D + ")": and(and(a, b), and(c, d)),
		A + " || " + B + " || (" + C + " || " + D + ")": or(or(a, b), or(c, d)), A + " && " + B + " || " + C + " && " + D: or(and(a, b), and(c, d)),
		"!((" + A + " || " + B + ") && " + C + ") || " + D: or(not(and(or(a, b), c)), d), A + " && (" + B + " && (" + C + " && " + D + "))": and(a, and(b, and(c, d))),
	} {
		checkText(t, format.Cond, x, want)
	}
}

func TestWrongCond(t *testing.T) {
	a := compare(api.Eq, name("x"), num(1))
	l := []api.Cond{
		{}, {Kind: -1}, {Kind: 8, L: []api.Cond{a, a}}, {Kind: api.Eq}, {Kind: api.Lt, A: name("x")}, {Kind: api.Eq, A: a.A, B: a.B, L: []api.Cond{a}},
		not(api.Cond{}), {Kind: api.Not}, join(api.Not, a, a), {Kind: api.And}, join(api.And, a), join(api.Or, a, a, a), and(a, api.Cond{}), or(api.Cond{}, a),
		{Kind: api.Not, A: a.A, L: []api.Cond{a}}, {Kind: api.Or, B: a.B, L: []api.Cond{a, a}}, deepCond(api.MaxDepth + 1),
	}
	for _, e := range wrongExprs() {
		l = append(l, compare(api.Le, name("x"), e), compare(api.Ne, e, name("x")))
	}
	for _, c := range l {
		checkError(t, format.Cond, c, api.ErrArg)
		checkError(t, format.Cond, or(a, not(c)), api.ErrArg)
	}
	n := api.MaxDepth - 1
	checkText(t, format.Cond, deepCond(n+1), strings.Repeat("!(", n)+"x < 1"+strings.Repeat(")", n))
	checkText(t, format.Cond, compare(api.Lt, deepExpr(n+1), num(2)), "x"+strings.Repeat(" - 1", n)+" < 2")
}

// conds returns all conditions up to a depth over some comparisons.
func conds(depth int) []api.Cond {
	l := []api.Cond{compare(api.Eq, name("a"), num(-1)), compare(api.Lt, sub(name("a"), add(name("b"), null())), mul(2, mul(3, name("b"))))}
	if depth == 1 {
		return l
	}
	for _, x := range conds(depth - 1) {
		l = append(l, not(x))
		for _, y := range conds(depth - 1) {
			l = append(l, and(x, y), or(x, y))
		}
	}
	return l
}

// asStmts makes conditions comparable by tree.EqualStmts.
func asStmts(c api.Cond) []api.Stmt {
	return []api.Stmt{{Kind: api.Assert, C: c}}
}

// TestSmallConds demands that texts are parsed as equal trees, and that none of their parentheses around conditions can be left out, except for those of a negation around a negation.
func TestSmallConds(t *testing.T) {
	l := conds(3)
	for _, c := range l {
		s, err := format.Cond(c)
		if again, _, parsed := parse.Cond(s); err != api.OK || parsed != api.OK || !tree.EqualStmts(asStmts(again), asStmts(c)) {
			t.Errorf("%q: %d, %d", s, err, parsed)
		}
		parentheses(s, func(before, inside, behind string) {
			inner, _, parsed := parse.Cond(inside)
			if parsed != api.OK {
				return
			}
			again, _, parsed := parse.Cond(before + inside + behind)
			same := parsed == api.OK && tree.EqualStmts(asStmts(again), asStmts(c))
			negated := strings.HasSuffix(before, "!")
			if same != (negated && inner.Kind != api.And && inner.Kind != api.Or) {
				t.Errorf("%q: parentheses around %q", s, inside)
			}
		})
	}
	if len(l) < 200 {
		t.Error(len(l))
	}
}
