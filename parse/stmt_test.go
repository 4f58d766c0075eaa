package parse_test

import (
	"testing"

	"sepal/api"
	"sepal/parse"
)

const head = "procedure p() {"

func at(line, column int) api.Pos {
	return api.Pos{Line: line, Column: column}
}

// checkBody demands these locals and statements of a procedure whose body begins in line 2.
func checkBody(t *testing.T, s string, locals []api.Param, want ...api.Stmt) {
	t.Helper()
	p, place, err := parse.Program(head + "\n" + s + "\n}")
	program := api.Program{Procs: []api.Proc{{Name: "p", Pos: at(1, 1), Locals: locals, Body: want}}}
	if err != api.OK || place != (api.Pos{}) || show(p) != show(program) {
		t.Errorf("%.80q: %v, %v, %d, want %v", s, p, place, err, program)
	}
}

func call(result, proc string, args ...api.Expr) api.Call {
	return api.Call{Result: result, Proc: proc, Args: args}
}

func TestSimpleStatements(t *testing.T) {
	x, y := name("x"), name("y")
	for s, want := range map[string]api.Stmt{
		"x = y;": {Kind: api.Assign, Name: "x", E: y}, "x = -1;": {Kind: api.Assign, Name: "x", E: num(-1)}, "x = x + 2 * (y - 1);": {Kind: api.Assign, Name: "x", E: add(x, mul(2, sub(y, num(1))))}, "x = null;": {Kind: api.Assign, Name: "x", E: null()},
		"x = (y);": {Kind: api.Assign, Name: "x", E: y}, "x = (y) + 1;": {Kind: api.Assign, Name: "x", E: add(y, num(1))}, "x = y - f;": {Kind: api.Assign, Name: "x", E: sub(y, name("f"))},
		"x = y.f;": {Kind: api.Load, Name: "x", From: "y", Field: "f"}, "x = x . x ;": {Kind: api.Load, Name: "x", From: "x", Field: "x"},
		"x.f = y;": {Kind: api.Save, Name: "x", Field: "f", E: y}, "x.f = 1 + y;": {Kind: api.Save, Name: "x", Field: "f", E: add(num(1), y)}, "x.x = null;": {Kind: api.Save, Name: "x", Field: "x", E: null()},
		"x = new R;": {Kind: api.New, Name: "x", From: "R"}, "free x;": {Kind: api.Free, Name: "x"}, "x = input;": {Kind: api.Input, Name: "x"},
		"f();": {Kind: api.Invoke, Calls: []api.Call{call("", "f")}}, "f(x);": {Kind: api.Invoke, Calls: []api.Call{call("", "f", x)}}, "f(x, y - 1, (null));": {Kind: api.Invoke, Calls: []api.Call{call("", "f", x, sub(y, num(1)), null())}},
		"x = f();": {Kind: api.Invoke, Calls: []api.Call{call("x", "f")}}, "x = f(x, 2 * y);": {Kind: api.Invoke, Calls: []api.Call{call("x", "f", x, mul(2, y))}},
		"assert x < y;": {Kind: api.Assert, C: compare(api.Lt, x, y)}, "assert (x < y);": {Kind: api.Assert, C: compare(api.Lt, x, y)}, "assert (x) < y || !y == 0;": {Kind: api.Assert, C: join(api.Or, compare(api.Lt, x, y), join(api.Not, compare(api.Eq, y, num(0))))},
		"par { f(); } { g(x); }": {Kind: api.Par, Calls: []api.Call{call("", "f"), call("", "g", x)}}, "par { x = f(y); } { g(); }": {Kind: api.Par, Calls: []api.Call{call("x", "f", y), call("", "g")}},
		"par { f(); } { y = g(x, x); }": {Kind: api.Par, Calls: []api.Call{call("", "f"), call("y", "g", x, x)}}, "par { x = f(); } { y = f(); }": {Kind: api.Par, Calls: []api.Call{call("x", "f"), call("y", "f")}},
	} {
		want.Pos = at(2, 1)
		checkBody(t, s, nil, want)
		later := want
		later.Pos = at(2, len(s)+3)
		checkBody(t, s+"  "+s, nil, want, later)
	}
}

func TestStatementsWithBlocks(t *testing.T) {
	x, y := name("x"), name("y")
	less := compare(api.Lt, x, y)
	assign := func(line, column int) api.Stmt {
		return api.Stmt{Kind: api.Assign, Pos: at(line, column), Name: "x", E: y}
	}
	emp := api.Formula{}
	checkBody(t, "if (x < y) { }", nil, api.Stmt{Kind: api.If, Pos: at(2, 1), C: less})
	checkBody(t, "if (x < y) { x = y; x = y; }", nil, api.Stmt{Kind: api.If, Pos: at(2, 1), C: less, Body: []api.Stmt{assign(2, 14), assign(2, 21)}})
	checkBody(t, "if (x < y) { } else { }", nil, api.Stmt{Kind: api.If, Pos: at(2, 1), C: less})
	checkBody(t, "if ((x) < y)\n{ } else\n { x = y; }", nil, api.Stmt{Kind: api.If, Pos: at(2, 1), C: less, Else: []api.Stmt{assign(4, 4)}})
	checkBody(t, "if (!(x < y)) { x = y; } else { x = y; } x = y;", nil, api.Stmt{Kind: api.If, Pos: at(2, 1), C: join(api.Not, less), Body: []api.Stmt{assign(2, 17)}, Else: []api.Stmt{assign(2, 33)}}, assign(2, 42))
	checkBody(t, "while (x < y) { }", nil, api.Stmt{Kind: api.While, Pos: at(2, 1), C: less})
	checkBody(t, "while (x < y) invariant emp { x = y; }", nil, api.Stmt{Kind: api.While, Pos: at(2, 1), C: less, Inv: []api.Formula{emp}, Body: []api.Stmt{assign(2, 31)}})
	checkBody(t, "while (x < y && x < y) invariant exists R z: z == x & ls(z) || x < y { }", nil, api.Stmt{Kind: api.While, Pos: at(2, 1), C: join(api.And, less, less),
		Inv: []api.Formula{{Exists: []api.Param{{Type: "R", Name: "z"}}, Pure: []api.Atom{atom(api.Eq, name("z"), x)}, Cells: []api.Cell{pred("ls", name("z"))}}, pure(atom(api.Lt, x, y))}})
	checkBody(t, "with L { }", nil, api.Stmt{Kind: api.With, Pos: at(2, 1), Name: "L"})
	checkBody(t, " with x { x = y; }", nil, api.Stmt{Kind: api.With, Pos: at(2, 2), Name: "x", Body: []api.Stmt{assign(2, 11)}})
	checkBody(t, "with L { while (x < y) { if (x < y) { x = y; } else { with M { } } x = y; } }", nil,
		api.Stmt{Kind: api.With, Pos: at(2, 1), Name: "L", Body: []api.Stmt{{Kind: api.While, Pos: at(2, 10), C: less, Body: []api.Stmt{
			{Kind: api.If, Pos: at(2, 26), C: less, Body: []api.Stmt{assign(2, 39)}, Else: []api.Stmt{{Kind: api.With, Pos: at(2, 55), Name: "M"}}}, assign(2, 68)}}}})
}

func TestLocals(t *testing.T) {
	x := api.Stmt{Kind: api.Assign, Pos: at(2, 8), Name: "x", E: num(1)}
	checkBody(t, "int a;", []api.Param{{Type: "int", Name: "a"}})
	checkBody(t, "int a; int a; R b; x y;", []api.Param{{Type: "int", Name: "a"}, {Type: "int", Name: "a"}, {Type: "R", Name: "b"}, {Type: "x", Name: "y"}})
	checkBody(t, "int x; x = 1;", []api.Param{{Type: "int", Name: "x"}}, x)
	checkBody(t, "R x  ; x = 1;", []api.Param{{Type: "R", Name: "x"}}, x)
	checkBody(t, "", nil)
	for _, c := range []struct {
		s      string
		column int
	}{
		{"x = 1; int y; }", 8}, {"x = 1; R y; }", 10}, {"f(); R y; }", 8}, {"R x y; }", 5}, {"R x = 1; }", 5}, {"R; }", 2}, {"int; }", 4}, {"int x, y; }", 6}, {"int int; }", 5}, {"R int; }", 3}, {"R 1; }", 3}, {"R if; }", 3}, {"R null; }", 3}, {"x x x", 5}, {"if R x; }", 4}, {"{ int x; } }", 1},
		{"if (a < b) { int x; } }", 14}, {"with L { R x; } }", 12},
	} {
		checkError(t, "program", head+"\n"+c.s, 2, c.column, api.ErrForm)
	}
}

func TestStatementErrors(t *testing.T) {
	for _, c := range []struct {
		s      string
		column int
	}{
		{"x; }", 2}, {"x }", 3}, {"x = ; }", 5}, {"x = 1 }", 7}, {"x = = 1; }", 5}, {"x == 1; }", 3}, {"x + 1; }", 3}, {"1 = x; }", 1}, {"null = x; }", 1}, {"x = if; }", 5}, {"x = a < b; }", 7}, {"x = emp; }", 5}, {"= x; }", 1}, {"; }", 1}, {"( }", 1}, {"else { } }", 1}, {"procedure", 1}, {"x, y = 1; }", 2}, {"(x) = 1; }", 1},
		{"x = new; }", 8}, {"x = new 1; }", 9}, {"x = new int; }", 9}, {"x = new R(); }", 10}, {"x = new R.f; }", 10}, {"x = input(); }", 10}, {"x = input + 1; }", 11}, {"x = 1 + input; }", 9}, {"x = 1 + new R; }", 9},
		// A field follows "=" if it begins with a name that is followed by ".", a call if by "(", otherwise an expression.
		{"x = y.; }", 7}, {"x = y.1; }", 7}, {"x = y.int; }", 7}, {"x = y.f + 1; }", 9}, {"x = y.f.g; }", 8}, {"x = 1 + y.f; }", 10}, {"x = (y.f); }", 7}, {"x = -y.f; }", 6}, {"x = null.f; }", 9}, {"x = (y).f; }", 8}, {"x = 2 * y.f; }", 10},
		{"x = f() + 1; }", 9}, {"x = 1 + f(); }", 10}, {"x = (f()); }", 7}, {"x = f(,); }", 7}, {"x = f(1,); }", 9}, {"x = f(1 2); }", 9}, {"x = f(f()); }", 8}, {"x = f(y.f); }", 8}, {"x = f(a < b); }", 9}, {"x = f().g; }", 8}, {"x = f(int y); }", 7}, {"x = null(); }", 9}, {"x = y y; }", 7}, {"x = y 1; }", 7}, {"x = y = 1; }", 7},
		{"x.f; }", 4}, {"x.f() ; }", 4}, {"x.f.g = 1; }", 4}, {"x.1 = 1; }", 3}, {"x.int = 1; }", 3}, {"x.f = y.f; }", 8}, {"x.f = f(); }", 8}, {"x.f = new R; }", 7}, {"x.f = input; }", 7}, {"x.f == 1; }", 5}, {"x.f = ; }", 7}, {"x. = 1; }", 4},
		{"f() }", 5}, {"f(; }", 3}, {"f(x; }", 4}, {"f() = 1; }", 5}, {"f().g = 1; }", 4}, {"f(x)(y); }", 5}, {"f(); ; }", 6},
		{"free; }", 5}, {"free 1; }", 6}, {"free null; }", 6}, {"free x.f; }", 7}, {"free (x); }", 6}, {"free x }", 8}, {"free x, y; }", 7},
		{"if a < b { } }", 4}, {"if (a) { } }", 6}, {"if () { } }", 5}, {"if (a < b) x = 1; }", 12}, {"if (a < b { } }", 11}, {"if (a < b) { } else x = 1; }", 21}, {"if (a < b) { } else if (a < b) { } }", 21}, {"if (a < b) { } else { } else { } }", 25}, {"if (a < b); }", 11}, {"if (a < b) { };", 15}, {"if ((a) < b { } }", 13}, {"if (a = b) { } }", 7}, {"if { } }", 4},
		{"while a < b { } }", 7}, {"while (a < b) x = 1; }", 15}, {"while (a < b) invariant { } }", 25}, {"while (a < b) invariant emp; { } }", 28}, {"while (a < b) invariant emp invariant emp { } }", 29}, {"while (a < b) { } else { } }", 19}, {"while (emp) { } }", 8}, {"while (a < b) emp { } }", 15}, {"while (a < b) invariant a { } }", 27}, {"while (a < b) { } ; }", 19},
		{"assert; }", 7}, {"assert a; }", 9}, {"assert a < b }", 14}, {"assert emp; }", 8}, {"assert (a); }", 10}, {"assert a < b & b < a; }", 14}, {"assert (a < b; }", 14},
		{"with { } }", 6}, {"with (L) { } }", 6}, {"with 1 { } }", 6}, {"with L; }", 7}, {"with L x = 1; }", 8}, {"with L, M { } }", 7},
		{"par { } { } }", 7}, {"par { f(); } }", 14}, {"par f(); g(); }", 5}, {"par { f() } { g(); } }", 11}, {"par { f(); g(); } { g(); } }", 12}, {"par { f(); } { g(); } { h(); } }", 23}, {"par { f(); } { g(); }; }", 22}, {"par { x = 1; } { g(); } }", 11}, {"par { x = y; } { g(); } }", 12}, {"par { x = y.f; } { g(); } }", 12}, {"par { x = new R; } { g(); } }", 11},
		{"par { x = input; } { g(); } }", 11}, {"par { f; } { g(); } }", 8}, {"par { x.f = 1; } { g(); } }", 8}, {"par { free x; } { g(); } }", 7}, {"par { x = f() + 1; } { g(); } }", 15}, {"par { f(); } else { g(); } }", 14}, {"par { (f()); } { g(); } }", 7}, {"par { int x; } { g(); } }", 7}, {"par { x y; } { g(); } }", 9}, {"par { f(); } { y = 1; } }", 20}, {"par { x = y = f(); } { g(); } }", 13},
	} {
		checkError(t, "program", head+"\n"+c.s, 2, c.column, api.ErrForm)
	}
}
