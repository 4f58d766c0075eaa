package format_test

import (
	"math"
	"slices"
	"strings"
	"testing"

	"sepal/api"
	"sepal/format"
)

// indented writes statements from this level on.
func indented(n int) func([]api.Stmt) (string, api.Errno) {
	return func(l []api.Stmt) (string, api.Errno) { return format.Stmts(l, n) }
}

func TestStmts(t *testing.T) {
	x, y := name("x"), name("y")
	c := or(compare(api.Lt, x, y), not(compare(api.Eq, x, null())))
	const C = "x < y || !(x == null)"
	free, input := api.Stmt{Kind: api.Free, Name: "x"}, api.Stmt{Kind: api.Input, Name: "y"}
	body := []api.Stmt{free, input}
	inv := []api.Formula{{}, {Exists: params(param("R", "n")), Cells: []api.Cell{pred("p", x, name("n"))}}}
	for want, l := range map[string][]api.Stmt{
		"": {}, "free x;\n": {free}, "y = input;\n": {input}, "free x;\ny = input;\n": body,
		"x = x - (y - 2 * x);\n": {{Kind: api.Assign, Name: "x", E: sub(x, sub(y, mul(2, x)))}}, "$r = -1;\n": {{Kind: api.Assign, Name: "$r", E: num(-1)}},
		"x = y.next;\n": {{Kind: api.Load, Name: "x", From: "y", Field: "next"}}, "x.next = y;\n": {{Kind: api.Save, Name: "x", Field: "next", E: y}}, "x.f = 1 + x;\n": {{Kind: api.Save, Name: "x", Field: "f", E: add(num(1), x)}},
		"x = new Node;\n": {{Kind: api.New, Name: "x", From: "Node"}},
		"p();\n":          {{Kind: api.Invoke, Calls: []api.Call{call("", "p")}}}, "p(x, y + 1);\n": {{Kind: api.Invoke, Calls: []api.Call{call("", "p", x, add(y, num(1)))}}},
		"x = p();\n": {{Kind: api.Invoke, Calls: []api.Call{call("x", "p")}}}, "$1 = p(-1, null);\n": {{Kind: api.Invoke, Calls: []api.Call{call("$1", "p", num(-1), null())}}},
		"assert " + C + ";\n":                                                      {{Kind: api.Assert, C: c}},
		"par { p(); } { q(); }\n":                                                  {{Kind: api.Par, Calls: []api.Call{call("", "p"), call("", "q")}}},
		"par { x = p(x, 1); } { q(null); }\n":                                      {{Kind: api.Par, Calls: []api.Call{call("x", "p", x, num(1)), call("", "q", null())}}},
		"par { p(x - (y + 1)); } { y = q(); }\n":                                   {{Kind: api.Par, Calls: []api.Call{call("", "p", sub(x, add(y, num(1)))), call("y", "q")}}},
		"if (" + C + ") {\n}\n":                                                    {{Kind: api.If, C: c}},
		"if (" + C + ") {\n\tfree x;\n}\n":                                         {{Kind: api.If, C: c, Body: body[:1]}},
		"if (" + C + ") {\n} else {\n\tfree x;\n}\n":                               {{Kind: api.If, C: c, Else: body[:1]}},
		"if (" + C + ") {\n\tfree x;\n\ty = input;\n} else {\n\ty = input;\n}\n":   {{Kind: api.If, C: c, Body: body, Else: body[1:]}},
		"while (" + C + ") {\n}\n":                                                 {{Kind: api.While, C: c}},
		"while (" + C + ") {\n\tfree x;\n\ty = input;\n}\n":                        {{Kind: api.While, C: c, Body: body}},
		"while (" + C + ") invariant emp {\n}\n":                                   {{Kind: api.While, C: c, Inv: inv[:1]}},
		"while (" + C + ") invariant emp || exists R n: p(x, n) {\n\tfree x;\n}\n": {{Kind: api.While, C: c, Inv: inv, Body: body[:1]}},
		"with L {\n}\n":                                                            {{Kind: api.With, Name: "L"}}, "with L {\n\tfree x;\n\ty = input;\n}\nfree x;\n": {{Kind: api.With, Name: "L", Body: body}, free},
	} {
		checkText(t, indented(0), l, want)
		inLines := ""
		for line := range strings.Lines(want) {
			inLines += "\t" + line
		}
		checkText(t, indented(1), l, inLines)
		checkText(t, indented(0), []api.Stmt{{Kind: api.With, Name: "M", Body: l}, free}, "with M {\n"+inLines+"}\nfree x;\n")
		checkText(t, indented(0), []api.Stmt{{Kind: api.While, C: c, Body: l}}, "while ("+C+") {\n"+inLines+"}\n")
		checkText(t, indented(0), []api.Stmt{{Kind: api.If, C: c, Body: l}}, "if ("+C+") {\n"+inLines+"}\n")
		if len(l) > 0 {
			checkText(t, indented(0), []api.Stmt{{Kind: api.If, C: c, Body: l, Else: l}}, "if ("+C+") {\n"+inLines+"} else {\n"+inLines+"}\n")
		}
	}
}

func TestIndentedStmts(t *testing.T) {
	free := api.Stmt{Kind: api.Free, Name: "x"}
	tabs := func(n int) string { return strings.Repeat("\t", n) }
	for n := range api.MaxDepth + 1 {
		checkText(t, indented(n), nil, "")
		checkText(t, indented(n), []api.Stmt{free, free}, tabs(n)+"free x;\n"+tabs(n)+"free x;\n")
		l, want := []api.Stmt{free}, tabs(n+api.MaxDepth-1)+"free x;\n"
		for i := api.MaxDepth - 2; i >= 0; i-- {
			l = []api.Stmt{{Kind: api.With, Name: "L", Body: l}}
			want = tabs(n+i) + "with L {\n" + want + tabs(n+i) + "}\n"
		}
		checkText(t, indented(n), l, want)
		checkError(t, indented(n), []api.Stmt{{Kind: api.With, Name: "L", Body: l}}, api.ErrArg)
	}
	for _, n := range []int{-1, api.MaxDepth + 1, math.MinInt, math.MaxInt} {
		checkError(t, indented(n), nil, api.ErrRange)
		checkError(t, indented(n), []api.Stmt{free}, api.ErrRange)
		checkError(t, indented(n), []api.Stmt{{}}, api.ErrArg)
	}
	full := slices.Repeat([]api.Stmt{free}, api.MaxList)
	checkText(t, indented(0), full, strings.Repeat("free x;\n", api.MaxList))
	checkError(t, indented(0), append(full, free), api.ErrArg)
}

func TestWrongStmts(t *testing.T) {
	x, c := name("x"), compare(api.Eq, name("x"), name("x"))
	wrong := []api.Stmt{
		{}, {Kind: -1}, {Kind: 13}, {Kind: api.Free}, {Kind: api.Free, Name: "input"}, {Kind: api.Free, Name: "x", Field: "f"}, {Kind: api.Input, Name: "x y"}, {Kind: api.Free, Name: "x", Pos: api.Pos{Line: -1}}, {Kind: api.Free, Name: "x", Pos: api.Pos{Column: api.MaxText + 2}},
		{Kind: api.Assign, E: x}, {Kind: api.Assign, Name: "x"}, {Kind: api.Load, Name: "x", From: "y"}, {Kind: api.Load, Name: "x", Field: "f"}, {Kind: api.Load, Name: "x", From: "y", Field: "$f"}, {Kind: api.Save, Name: "x", Field: "f"}, {Kind: api.Save, Name: "x", E: x},
		{Kind: api.New, Name: "x"}, {Kind: api.New, Name: "x", From: "int"}, {Kind: api.Invoke}, {Kind: api.Invoke, Calls: []api.Call{{}}}, {Kind: api.Invoke, Calls: []api.Call{call("", "p"), call("", "p")}}, {Kind: api.Invoke, Calls: []api.Call{call("2", "p")}}, {Kind: api.Invoke, Calls: []api.Call{call("", "$p")}},
		{Kind: api.Invoke, Calls: []api.Call{call("", "p", slices.Repeat([]api.Expr{x}, api.MaxParams+1)...)}}, {Kind: api.Invoke, Name: "x", Calls: []api.Call{call("", "p")}}, {Kind: api.Par}, {Kind: api.Par, Calls: []api.Call{call("", "p")}}, {Kind: api.Par, Calls: []api.Call{call("", "p"), {}}},
		{Kind: api.Assert}, {Kind: api.Assert, C: c, E: x}, {Kind: api.If}, {Kind: api.If, C: c, Inv: []api.Formula{{}}}, {Kind: api.If, C: c, Body: []api.Stmt{{}}}, {Kind: api.If, C: c, Else: []api.Stmt{{}}}, {Kind: api.While}, {Kind: api.While, C: c, Else: []api.Stmt{{Kind: api.Free, Name: "x"}}},
		{Kind: api.While, C: c, Inv: []api.Formula{{Pure: []api.Atom{{}}}}}, {Kind: api.While, C: c, Inv: make([]api.Formula, api.MaxList+1)}, {Kind: api.While, C: c, Body: []api.Stmt{{}}}, {Kind: api.With}, {Kind: api.With, Name: "$L"}, {Kind: api.With, Name: "L", Body: []api.Stmt{{}}}, {Kind: api.With, Name: "L", C: c},
	}
	for _, e := range wrongExprs() {
		wrong = append(wrong, api.Stmt{Kind: api.Assign, Name: "x", E: e}, api.Stmt{Kind: api.Save, Name: "x", Field: "f", E: e}, api.Stmt{Kind: api.Assert, C: compare(api.Eq, x, e)}, api.Stmt{Kind: api.Invoke, Calls: []api.Call{call("", "p", e)}})
	}
	for _, s := range wrong {
		for _, n := range []int{0, api.MaxDepth, -1} {
			checkError(t, indented(n), []api.Stmt{s}, api.ErrArg)
			checkError(t, indented(n), []api.Stmt{{Kind: api.Free, Name: "x"}, s}, api.ErrArg)
			checkError(t, indented(n), []api.Stmt{{Kind: api.With, Name: "L", Body: []api.Stmt{s}}}, api.ErrArg)
		}
	}
}
