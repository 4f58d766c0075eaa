package parse_test

import (
	"strings"
	"testing"

	"sepal/api"
	"sepal/parse"
)

// TestOrderOfErrors has texts with several errors: the first one of this order counts, wherever it is.
func TestOrderOfErrors(t *testing.T) {
	long := strings.Repeat("a", api.MaxName+1)
	deep := strings.Repeat("2 * ", api.MaxDepth) + "x"
	for _, c := range []struct {
		name, s string
		column  int
		e       api.Errno
	}{
		{"expr", ") ) @", 5, api.ErrForm}, {"expr", ") 1048577", 3, api.ErrBig}, {"expr", ") " + long, 3, api.ErrFull}, {"expr", ") 01", 3, api.ErrForm}, {"expr", "a + @", 5, api.ErrForm}, {"expr", deep + " 1048577", len(deep) + 2, api.ErrBig}, {"expr", "1048577 " + long, 1, api.ErrBig},
		{"expr", deep + " )", len(deep) + 2, api.ErrForm}, {"expr", deep + " +", 0, api.ErrEnd}, {"expr", deep, 0, api.ErrFull}, {"expr", "(" + deep, 0, api.ErrEnd}, {"expr", deep + " + )", len(deep) + 4, api.ErrForm},
		{"condition", deep + " && b", len(deep) + 2, api.ErrForm}, {"condition", deep, 0, api.ErrEnd}, {"condition", deep + " < b", 0, api.ErrFull}, {"condition", "a b @", 5, api.ErrForm}, {"condition", "a < " + deep + " <", len(deep) + 6, api.ErrForm},
		{"assertion", "exists R a, R a: a = b", 20, api.ErrForm}, {"assertion", "exists R a, R a: a", 0, api.ErrEnd}, {"assertion", "exists R a, R a: emp", 0, api.ErrFull}, {"assertion", "exists R a, R a: a = b $", 24, api.ErrForm}, {"assertion", "emp || || " + long, 11, api.ErrFull},
		{"program", "record R { } record", 0, api.ErrEnd}, {"program", "record R { } x", 14, api.ErrForm}, {"program", "record R { }", 0, api.ErrFull}, {"program", "record R { } x 00", 16, api.ErrForm}, {"program", "record R { } record R { } } {", 27, api.ErrForm}, {"program", "x record", 1, api.ErrForm},
	} {
		line := min(c.column, 1)
		checkError(t, c.name, c.s, line, c.column, c.e)
	}
	for _, name := range []string{"expr", "condition", "assertion", "program"} {
		checkError(t, name, strings.Repeat(" ", api.MaxText+1), 0, 0, api.ErrFull)
		checkError(t, name, ") @"+strings.Repeat(" ", api.MaxText), 0, 0, api.ErrFull)
		checkError(t, name, ") ) \n  ?", 2, 3, api.ErrForm)
	}
}

// checkLimit demands that a text with n of something is parsed, and that one with n + 1 of it is not.
func checkLimit(t *testing.T, name string, n int, text func(int) string) {
	t.Helper()
	if place, e := parseAs(name, text(n)); e != api.OK {
		t.Errorf("%.80q with %d: %v, %d", text(n), n, place, e)
	}
	checkError(t, name, text(n+1), 0, 0, api.ErrFull)
}

func times(s string) func(int) string {
	return func(n int) string { return strings.Repeat(s, n) }
}

// list writes n items with different names in place of $.
func list(n int, item, between string) string {
	var l []string
	for i := range n {
		l = append(l, strings.ReplaceAll(item, "$", "n"+show(i)))
	}
	return strings.Join(l, between)
}

// around puts n items between two texts.
func around(before, item, between, after string) func(int) string {
	return func(n int) string { return before + list(n, item, between) + after }
}

func TestDepths(t *testing.T) {
	nested := func(before, inside, after string) func(int) string {
		return func(n int) string { return strings.Repeat(before, n-1) + inside + strings.Repeat(after, n-1) }
	}
	// each pair of parentheses stands for two levels, so one level is left over if n is even
	mixed := func(n int) string {
		return strings.Repeat("2 * (1 + (", (n-1)/2) + "y" + strings.Repeat("))", (n-1)/2) + strings.Repeat(" - 3", 1-n%2)
	}
	for _, text := range []func(int) string{nested("2 * ", "x", ""), nested("", "x", " + 1"), nested("", "x", " - y"), nested("x - (", "y", ")"), mixed} {
		checkLimit(t, "expr", api.MaxDepth, text)
		for _, around := range []struct{ name, before, after string }{
			{"condition", "", " < 1"}, {"condition", "1 < 2 && (1 < ", ")"}, {"condition", "!1 < ", ""}, {"assertion", "", " == 1"}, {"assertion", "emp || emp & 1 < ", ""}, {"assertion", "ls(1, ", ")"}, {"assertion", "1 -> R(", ", 1)"}, {"assertion", "", " -> R(1)"},
			{"program", "procedure p() { x = ", "; }"}, {"program", "procedure p() { x.f = ", "; }"}, {"program", "procedure p() { f(", "); }"}, {"program", "procedure p() { x = f(1, ", "); }"}, {"program", "procedure p() { par { f(); } { f(", "); } }"}, {"program", "procedure p() { assert ", " < 1; }"}, {"program", "procedure p() { with L { if (1 < ", ") { } } }"},
			{"program", "procedure p() { while (1 < ", ") { } }"}, {"program", "procedure p() { while (1 < 2) invariant emp || 1 < ", " { } }"}, {"program", "procedure p() requires 1 < ", " ensures emp { }"}, {"program", "procedure p() requires emp ensures 1 < ", " { }"}, {"program", "lock L invariant 1 < ", ";"}, {"program", "predicate p(int a) = emp || 1 < ", ";"}, {"program", "lemma l(): 1 < ", " ==> emp;"}, {"program", "lemma l(): emp ==> 1 < ", ";"},
		} {
			checkLimit(t, around.name, api.MaxDepth, func(n int) string { return around.before + text(n) + around.after })
		}
	}
	for _, text := range []func(int) string{nested("!", "a < b", ""), nested("", "a < b", " && c < d"), nested("", "a < b", " || c < d"), nested("a < b && (", "c < d", ")"), nested("a < b || (", "c < d", ")")} {
		checkLimit(t, "condition", api.MaxDepth, text)
		checkLimit(t, "program", api.MaxDepth, func(n int) string { return "procedure p() { if (" + text(n) + ") { } }" })
		checkLimit(t, "program", api.MaxDepth, func(n int) string { return "procedure p() { while (a < b) { assert " + text(n) + "; } }" })
	}
	for _, text := range []func(int) string{nested("if (a < b) { ", "x = 1;", " }"), nested("if (a < b) { } else { ", "x = 1;", " }"), nested("while (a < b) { ", "f();", " }"), nested("with L { ", "free x;", " }")} {
		checkLimit(t, "program", api.MaxDepth, func(n int) string { return "procedure p() { " + text(n) + " }" })
	}
	for _, text := range []func(int) string{nested("(", "x", ")"), nested("(", "2 * (x)", ")")} {
		if _, e := parseAs("expr", text(1000)); e != api.OK {
			t.Error(e)
		}
		if _, e := parseAs("condition", text(1000)+" < (("+text(1000)+"))"); e != api.OK {
			t.Error(e)
		}
	}
}

func TestLists(t *testing.T) {
	for _, text := range []func(int) string{
		around("", "emp", " || ", ""), around("", "1 < 2", " & ", ""), around("emp & ", "ls($)", " & ", " & 1 < 2"), around("", "x -> R(1)", " & ", ""), around("emp || exists int a: ", "a == $", " & ", ""),
	} {
		checkLimit(t, "assertion", api.MaxList, text)
	}
	for _, text := range []func(int) string{
		times("record R { int a; }\n"), times("global int a;"), times("lock L invariant emp;"), times("predicate p(int a) = emp;"), times("lemma l(): emp ==> emp;"), times("procedure p() { }"),
		around("procedure p() { ", "int a;", " ", " }"), around("procedure p() { ", "x = 1;", " ", " }"), around("procedure p() { with L { ", "free x;", " ", " } }"), around("procedure p() { if (a < b) { ", "f();", " ", " } else { } }"), around("procedure p() { if (a < b) { } else {", "f();", " ", " } }"), around("procedure p() { while (a < b) {", "f();", " ", " } }"),
		around("lock L invariant ", "emp", " || ", ";"), around("predicate p(int a) = ", "emp", " || ", ";"), around("procedure p() requires ", "emp", " || ", " ensures emp { }"), around("procedure p() requires emp ensures ", "emp", " || ", "{ }"), around("procedure p() { while (a < b) invariant ", "emp", "||", "{ } }"),
		around("lemma l(): ", "a < b", "&", " ==> emp;"), around("lemma l(): emp ==> ", "p(a)", "&", ";"),
	} {
		checkLimit(t, "program", api.MaxList, text)
	}
}

func TestParams(t *testing.T) {
	for _, text := range []func(int) string{around("ls(", "$", ", ", ")"), around("x -> R(", "$", ", ", ")"), around("emp || emp & y -> R(", "2 * $", ", ", ") & emp")} {
		checkLimit(t, "assertion", api.MaxParams, text)
		checkLimit(t, "program", api.MaxParams, func(n int) string { return "lock L invariant " + text(n) + ";" })
	}
	for _, text := range []func(int) string{
		around("record R { ", "int a;", " ", " }"), around("predicate p(", "int $", ", ", ") = emp;"), around("lemma l(", "int $", ", ", "): emp ==> emp;"), around("procedure p(", "R $", ", ", ") { }"), around("procedure p() logical (", "R $", ", ", ") requires emp ensures emp { }"),
		around("procedure p() { f(", "$", ", ", "); }"), around("procedure p() { x = f(", "1 + $", ", ", "); }"), around("procedure p() { par { f(", "$", ", ", "); } { f(); } }"), around("procedure p() { par { f(); } { x = f(", "$", ", ", "); } }"),
		around("lock L invariant exists ", "R $", ", ", ": emp;"), around("predicate p(int a) = emp || exists ", "R $", ", ", ": emp;"), around("lemma l(): exists ", "R $", ", ", ": emp ==> emp;"), around("lemma l(): emp ==> exists ", "R $", ", ", ": emp;"), around("procedure p() requires exists ", "R $", ", ", ": emp ensures emp { }"),
		around("procedure p() requires emp ensures exists ", "R $", ", ", ": emp { }"), around("procedure p() { while (a < b) invariant exists ", "R $", ", ", ": emp { } }"),
	} {
		checkLimit(t, "program", api.MaxParams, text)
	}
	// A formula alone may have more existential variables than one of a program (2).
	checkLimit(t, "assertion", api.MaxList, around("exists ", "int $", ", ", ": emp"))
}

func TestExistentialVariablesOfTheSameName(t *testing.T) {
	for _, s := range []string{"exists int a, int a: emp", "exists R a, int b, S a: emp", "emp || exists int a, int a: a == 1", "exists int a, int b: emp || exists int a, R a: emp"} {
		checkError(t, "assertion", s, 0, 0, api.ErrFull)
		for _, around := range []string{"lock L invariant $;", "predicate p(int a) = $;", "procedure p() requires $ ensures emp { }", "procedure p() requires emp ensures $ { }", "procedure p() { while (a < b) invariant $ { } }"} {
			checkError(t, "program", strings.ReplaceAll(around, "$", s), 0, 0, api.ErrFull)
		}
	}
	checkError(t, "program", "lemma l(): exists int a, R a: emp ==> emp;", 0, 0, api.ErrFull)
	checkError(t, "program", "lemma l(): emp ==> exists int a, R a: emp;", 0, 0, api.ErrFull)
	for name, s := range map[string]string{"assertion": "exists int a: emp || exists R a, int A: emp", "program": "predicate p(int a, int a) = exists int a: a == 1 || exists R a: emp; lemma l(R a, R a): exists R a: emp ==> exists R a: emp;"} {
		if place, e := parseAs(name, s); e != api.OK {
			t.Error(s, place, e)
		}
	}
}

func TestNamesAndNumbers(t *testing.T) {
	full := strings.Repeat("n", api.MaxName)
	program := strings.ReplaceAll("record $ { $ $; } global $ $; lock $ invariant exists $ $: $ -> $($) & $($); predicate $($ $) = $ == 1; lemma $($ $): emp ==> emp; procedure $($ $) returns ($ $) logical ($ $) requires emp ensures emp { $ $; $ = $; $.$ = $; $ = $.$; $ = new $; free $; $ = input; $ = $($); $(); with $ { } par { $ = $(); } { $(); } }", "$", full)
	if place, e := parseAs("program", program); e != api.OK {
		t.Error(place, e)
	}
	for i := strings.Index(program, full); i < len(program); i += len(full) {
		next := strings.Index(program[i:], full)
		if next < 0 {
			break
		}
		i += next
		checkError(t, "program", program[:i]+"n"+program[i:], 1, i+1, api.ErrFull)
	}
	checkError(t, "expr", "a + "+full+"n", 1, 5, api.ErrFull)
	for s, n := range map[string]int{"1048576": api.MaxInt, "-1048576": -api.MaxInt, "- 1048576": -api.MaxInt, "0": 0, "-0": 0} {
		checkExpr(t, s, num(n))
		checkExpr(t, s+" * "+s+" + x", add(mul(n, num(n)), name("x")))
	}
	checkError(t, "expr", "1048577", 1, 1, api.ErrBig)
	checkError(t, "expr", "-1048577", 1, 2, api.ErrBig)
	checkError(t, "condition", "a < 2 * -1048577", 1, 10, api.ErrBig)
	checkError(t, "assertion", "ls(00)", 1, 4, api.ErrForm)
	checkError(t, "program", "procedure p() { x = 9999999999999999999999; }", 1, 21, api.ErrBig)
}

// TestTallTexts has as many levels, and as many tokens, as a text can have.
func TestTallTexts(t *testing.T) {
	const n = api.MaxText
	pair := func(open, inside, closed string) string {
		k := (n - len(inside)) / (len(open) + len(closed))
		return strings.Repeat(open, k) + inside + strings.Repeat(closed, k)
	}
	for _, c := range []struct {
		name, s string
		column  int
		e       api.Errno
	}{
		{"expr", pair("(", "x", ")"), 0, api.OK}, {"condition", pair("(", "x<y", ")"), 0, api.OK}, {"condition", pair("(", "x", ")")[:n-3] + "<y", 0, api.ErrEnd}, {"condition", pair("(", "(x)<y", ")"), 0, api.OK}, {"assertion", pair("(", "x", ")<y"), 0, api.ErrForm},
		{"expr", strings.Repeat("(", n), 0, api.ErrEnd}, {"condition", strings.Repeat("(", n), 0, api.ErrEnd}, {"condition", strings.Repeat("!", n), 0, api.ErrEnd}, {"condition", strings.Repeat("!(", n/2), 0, api.ErrEnd}, {"condition", pair("!(", "x<y", ")"), 0, api.ErrFull}, {"condition", strings.Repeat("!", n-3) + "x<y", 0, api.ErrFull},
		{"expr", strings.Repeat("2*", n/2-1) + "x", 0, api.ErrFull}, {"expr", "x" + strings.Repeat("-1", n/2-1), 0, api.ErrFull}, {"expr", pair("x+(", "x", ")"), 0, api.ErrFull}, {"assertion", strings.Repeat("a(b)&", n/5-1) + "emp", 0, api.ErrFull}, {"assertion", strings.Repeat("emp||", n/5-1) + "emp", 0, api.ErrFull}, {"assertion", strings.Repeat("emp&", n/4-1) + "emp", 0, api.OK},
		{"program", head + strings.Repeat("if(a<b){", n/8-8), 0, api.ErrEnd}, {"program", head + strings.Repeat("with L{", n/9) + strings.Repeat("}", n/9+1), 0, api.ErrFull}, {"program", head + strings.Repeat("a=b;", n/4-8) + "}", 0, api.ErrFull}, {"program", head + "f(" + strings.Repeat("a,", n/2-16) + "a);}", 0, api.ErrFull}, {"program", strings.Repeat("}", n), 1, api.ErrForm},
	} {
		place, e := parseAs(c.name, c.s)
		if e != c.e || c.column > 0 && place != at(1, c.column) {
			t.Errorf("%s %.20q: %v, %d, want %d", c.name, c.s, place, e, c.e)
		}
	}
	e, _, err := parse.Expr(pair("(", "x", ")"))
	if err != api.OK || show(e) != show(name("x")) {
		t.Error(e, err)
	}
}
