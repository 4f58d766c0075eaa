package parse_test

import (
	"strings"
	"testing"

	"sepal/api"
	"sepal/parse"
)

func checkCond(t *testing.T, s string, want api.Cond) {
	t.Helper()
	c, place, err := parse.Cond(s)
	if err != api.OK || place != (api.Pos{}) || show(c) != show(want) {
		t.Errorf("%.80q: %v, %v, %d, want %v", s, c, place, err, want)
	}
}

func TestCond(t *testing.T) {
	a, b, c := name("a"), name("b"), name("c")
	x, y, z := compare(api.Lt, a, b), compare(api.Eq, b, c), compare(api.Ne, a, null())
	for s, want := range map[string]api.Cond{
		"a < b": x, "b == c": y, "a != null": z, "a <= b": compare(api.Le, a, b), "-1 < 2 * a": compare(api.Lt, num(-1), mul(2, a)), "a - b <= b - c": compare(api.Le, sub(a, b), sub(b, c)),
		"!a < b": join(api.Not, x), "!!a < b": join(api.Not, join(api.Not, x)), "!(a < b)": join(api.Not, x), "!a + b < c": join(api.Not, compare(api.Lt, add(a, b), c)),
		"a < b && b == c": join(api.And, x, y), "a < b || b == c": join(api.Or, x, y),
		"a < b && b == c && a != null": join(api.And, join(api.And, x, y), z), "a < b || b == c || a != null": join(api.Or, join(api.Or, x, y), z),
		"a < b && (b == c && a != null)": join(api.And, x, join(api.And, y, z)), "a < b || (b == c || a != null)": join(api.Or, x, join(api.Or, y, z)),
		"a < b && b == c || a != null": join(api.Or, join(api.And, x, y), z), "a < b || b == c && a != null": join(api.Or, x, join(api.And, y, z)),
		"(a < b || b == c) && a != null": join(api.And, join(api.Or, x, y), z), "a < b && (b == c || a != null)": join(api.And, x, join(api.Or, y, z)),
		"!a < b && b == c": join(api.And, join(api.Not, x), y), "!(a < b && b == c)": join(api.Not, join(api.And, x, y)), "a < b && !b == c || !a != null": join(api.Or, join(api.And, x, join(api.Not, y)), join(api.Not, z)),
		"a < b && b == c && a != null && a < b": join(api.And, join(api.And, join(api.And, x, y), z), x), "a < b && b == c || a != null && a < b": join(api.Or, join(api.And, x, y), join(api.And, z, x)),
		"a < b || b == c || a != null || a < b": join(api.Or, join(api.Or, join(api.Or, x, y), z), x),
		// A "(" begins an expression if a relation, "+", or "-" is behind its end.
		"(a) < b": x, "((a)) < (b)": x, "(a < b)": x, "((a < b))": x, "((a) < b)": x, "(((a)) < (b))": x, "(a + b) == c": compare(api.Eq, add(a, b), c), "(a) + b != c": compare(api.Ne, add(a, b), c), "(a) - b <= c": compare(api.Le, sub(a, b), c),
		"((a) + b) < c": compare(api.Lt, add(a, b), c), "(a - b) - c <= (a)": compare(api.Le, sub(sub(a, b), c), a), "((a + b) == c)": compare(api.Eq, add(a, b), c), "a < (b)": x, "a < (b + c)": compare(api.Lt, a, add(b, c)), "a < (b) + c": compare(api.Lt, a, add(b, c)),
		"(a) < b && (b == c)": join(api.And, x, y), "(a < b) && (b) == c": join(api.And, x, y), "(a < b) || b == c": join(api.Or, x, y), "!(a) < b": join(api.Not, x), "!((a) < b)": join(api.Not, x), "(!(a) < b)": join(api.Not, x), "((a < b) && (b == (c)))": join(api.And, x, y),
		"2 * (a) < b": compare(api.Lt, mul(2, a), b), "(2 * (a)) < b": compare(api.Lt, mul(2, a), b), "(a < b && ((b) == c))": join(api.And, x, y), "((((a) - 1) + 2) < 3 && (b == c || (a) != null))": join(api.And, compare(api.Lt, add(sub(a, num(1)), num(2)), num(3)), join(api.Or, y, z)),
	} {
		checkCond(t, s, want)
		checkCond(t, "("+s+")", want)
		checkCond(t, "(( "+s+" )\n)", want)
		checkCond(t, strings.NewReplacer(" ", "\n", "!(", "!#(\n(").Replace(s), want)
	}
}

func TestCondErrors(t *testing.T) {
	for _, c := range []struct {
		s      string
		column int
	}{
		{"a && b < c", 3}, {"a || b < c", 3}, {"a = b", 3}, {"a < b < c", 7}, {"a < b & c < d", 7}, {"a < b c", 7}, {"< b", 1}, {"a < < b", 5}, {"a < b && && c < d", 10}, {"a < b && || c < d", 10}, {"a < b)", 6}, {"a -> R(b)", 3}, {"emp", 1},
		{"a < !b", 5}, {"!&& a < b", 2}, {"() < a", 2}, {"()", 2}, {"a < b, c < d", 6}, {"a < b {", 7}, {"a * 2 < b", 3}, {"ls(a)", 3}, {"a <= b ==> c", 8},
		// no relation, "+", or "-" is behind the end: a condition
		{"(a)", 3}, {"(a + b)", 7}, {"(a) * 2 < b", 3}, {"(a) && b < c", 3}, {"(a + b) && c < d", 7}, {"(a b", 4}, {"((a)) && b < c", 4}, {"(a) ! b", 3}, {"(a) -> R(b)", 3}, {"((a) && b < c) == d", 6}, {"(a) = b", 3},
		// one of them is behind it: an expression
		{"(a < b) < c", 4}, {"(a < b) == c", 4}, {"(a == b) + c < d", 4}, {"(a != b) - c < d", 4}, {"(!a < b) <= c", 2}, {"((a < b)) != c", 5}, {"(a && b) < c", 4}, {"() == a", 2}, {"((a < b) && c < d) < e", 5}, {"(a < b) + c", 4},
		{"((a)", 4}, {"(a < b) < ", 4}, {"(a b) ==", 4}, {"a < b && (c < d) < e", 13}, {"!(a < b) < c", 5},
	} {
		checkError(t, "condition", c.s, 1, c.column, api.ErrForm)
	}
	for _, s := range []string{"", "!", "a", "a <", "a +", "a < b &&", "a < b ||", "(", "(a", "(a <", "(a < b", "(a < b &&", "((a) < b", "(a + b) <", "(a) -", "(a) + b", "!(", "2 *", "((a)+", "a < (b"} {
		checkError(t, "condition", s, 0, 0, api.ErrEnd)
	}
	checkError(t, "condition", "a <\nb &&\n  (c)", 3, 5, api.ErrForm)
}
