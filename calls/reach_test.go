package calls_test

import (
	"slices"
	"strings"
	"testing"

	"sepal/api"
	"sepal/calls"
)

// hanging has cycles, chains between them, and procedures that nothing calls.
const hanging = "top: a s; a: b; b: c m; c: a; m: n; n: x m_; m_; x: y; y: x z; z; s: s; alone; last: alone"

func TestReachAndAffected(t *testing.T) {
	for _, c := range []struct{ text, names, reach, affected string }{
		{"a", "", "", ""},
		{"a", "a", "a", "a"},
		{"a: a", "a", "a", "a"},
		{"a: b; b", "a", "a b", "a"},
		{"a: b; b", "b", "b", "a b"},
		{"a: b; b", "a b", "a b", "a b"},
		{"a: b; b", "c", "", ""},
		{"a: b; b", "c b", "b", "a b"},
		{"main: even odd; even: odd; odd: even", "odd", "even odd", "even main odd"},
		{"main: even odd; even: odd; odd: even", "main", "even main odd", "main"},
		{"d: c; c: b; b: a; a", "b", "a b", "b c d"},
		{"d: c; c: b; b: a; a", "d", "a b c d", "d"},
		{"d: c; c: b; b: a; a", "d a", "a b c d", "a b c d"},
		{"d: c; c: b; b: a; a", "b c", "a b c", "b c d"},
		{"d: a b; b: c; a: c; c; e", "a e", "a c e", "a d e"},
		{"b10; b2: b10; B: b2; b_: B", "b2", "b10 b2", "B b2 b_"},
		{"b10; b2: b10; B: b2; b_: B", "b_", "B b10 b2 b_", "b_"},
		{hanging, "", "", ""},
		{hanging, "top", "a b c m m_ n s top x y z", "top"},
		{hanging, "b", "a b c m m_ n x y z", "a b c top"},
		{hanging, "m", "m m_ n x y z", "a b c m top"},
		{hanging, "m_", "m_", "a b c m m_ n top"},
		{hanging, "y", "x y z", "a b c m n top x y"},
		{hanging, "z", "z", "a b c m n top x y z"},
		{hanging, "s", "s", "s top"},
		{hanging, "alone", "alone", "alone last"},
		{hanging, "last", "alone last", "last"},
		{hanging, "last s", "alone last s", "last s top"},
		{hanging, "z last", "alone last z", "a b c last m n top x y z"},
		{hanging, "alone z m_ s", "alone m_ s z", "a alone b c last m m_ n s top x y z"},
		{hanging, "last top", "a alone b c last m m_ n s top x y z", "last top"},
		{hanging, "none Top int null procedure $m m__ _", "", ""},
	} {
		p := calling(t, c.text)
		checkSpread(t, p, strings.Fields(c.names), c.reach, c.affected)
	}
	checkSpread(t, api.Program{}, nil, "", "")
	checkSpread(t, api.Program{}, []string{"", "a"}, "", "")
}

func checkSpread(t *testing.T, p api.Program, names []string, reach, affected string) {
	t.Helper()
	what := strings.Join(names, ",")
	checkNames(t, "reached from "+what, calls.Reach(p, names), reach)
	checkNames(t, "affected by "+what, calls.Affected(p, names), affected)
}

// TestOrderAndRepetition demands that the order of the names does not matter, nor do repeated and wrong ones.
func TestOrderAndRepetition(t *testing.T) {
	p := calling(t, hanging)
	const reach, affected = "alone last x y z", "a b c last m n top x y z"
	permuted([]string{"x", "none", "last", "z", ""}, func(l []string) {
		checkSpread(t, p, l, reach, affected)
		checkSpread(t, p, slices.Concat(l, l[:3], l), reach, affected)
	})
	checkSpread(t, p, slices.Repeat([]string{"z"}, 5), "z", "a b c m n top x y z")
	checkSpread(t, p, slices.Repeat([]string{"none", "x\x00", " z", "z ", strings.Repeat("z", 1000), "\xff"}, 1000), "", "")
	checkSpread(t, p, append(slices.Repeat([]string{"none"}, 100000), "last"), "alone last", "last")
}

// TestLongWays goes as far as there can be procedures.
func TestLongWays(t *testing.T) {
	up := many(t, func(i int) []int { return []int{min(i+1, api.MaxList-1)} })
	circle := many(t, func(i int) []int { return []int{(i + 7) % api.MaxList} })
	var names []string
	for i := range api.MaxList {
		names = append(names, nameOf(i))
	}
	for i := range api.MaxList {
		checkSpread(t, up, names[i:i+1], strings.Join(names[i:], " "), strings.Join(names[:i+1], " "))
		checkSpread(t, circle, names[i:i+1], strings.Join(names, " "), strings.Join(names, " "))
	}
}
