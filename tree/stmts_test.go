package tree_test

import (
	"math"
	"slices"
	"testing"

	"sepal/api"
	"sepal/tree"
)

func checkStmts(t *testing.T, l []api.Stmt, want bool) {
	t.Helper()
	if tree.Stmts(l) != want {
		t.Errorf("Stmts(%v) is %v", l, !want)
	}
}

func checkStmt(t *testing.T, s api.Stmt, want bool) {
	t.Helper()
	checkStmts(t, []api.Stmt{s}, want)
}

// A part of a statement, with the kinds that have it.
type part struct {
	name     string
	kinds    []int
	optional bool
	set      func(s *api.Stmt) // makes it valid and not zero
	clear    func(s *api.Stmt)
	wrong    []func(s *api.Stmt) // make it not valid, and not zero
}

func stmtParts() []part {
	return append(wordParts(), slices.Concat(treeParts(), listParts())...)
}

func wordParts() []part {
	var wrongVariables, wrongFields []func(s *api.Stmt)
	for _, x := range append(wrongNames()[1:], "int") {
		wrongVariables = append(wrongVariables, func(s *api.Stmt) { s.Name = x })
		wrongFields = append(wrongFields, func(s *api.Stmt) { s.Field = x })
	}
	return []part{
		{"Name", []int{api.Assign, api.Load, api.Save, api.New, api.Free, api.Input, api.With}, false,
			func(s *api.Stmt) { s.Name = "x" }, func(s *api.Stmt) { s.Name = "" }, wrongVariables},
		{"From", []int{api.Load, api.New}, false,
			func(s *api.Stmt) { s.From = "y" }, func(s *api.Stmt) { s.From = "" },
			[]func(s *api.Stmt){func(s *api.Stmt) { s.From = "2x" }, func(s *api.Stmt) { s.From = "if" }, func(s *api.Stmt) { s.From = "$" }}},
		{"Field", []int{api.Load, api.Save}, false,
			func(s *api.Stmt) { s.Field = "next" }, func(s *api.Stmt) { s.Field = "" },
			append(wrongFields, func(s *api.Stmt) { s.Field = "$next" })},
	}
}

func treeParts() []part {
	return []part{
		{"E", []int{api.Assign, api.Save}, false,
			func(s *api.Stmt) { s.E = num(0) }, func(s *api.Stmt) { s.E = api.Expr{} },
			[]func(s *api.Stmt){
				func(s *api.Stmt) { s.E = api.Expr{N: 1} },
				func(s *api.Stmt) { s.E = api.Expr{Name: "x"} },
				func(s *api.Stmt) { s.E = api.Expr{Kind: 7} },
				func(s *api.Stmt) { s.E = api.Expr{L: []api.Expr{{}}} },
				func(s *api.Stmt) { s.E = deepExprs(tooDeep)[0] },
			}},
		{"C", []int{api.If, api.While, api.Assert}, false,
			func(s *api.Stmt) { s.C = comparison(api.Eq, num(0), num(0)) }, func(s *api.Stmt) { s.C = api.Cond{} },
			[]func(s *api.Stmt){
				func(s *api.Stmt) { s.C = api.Cond{Kind: api.Not} },
				func(s *api.Stmt) { s.C = api.Cond{A: num(1)} },
				func(s *api.Stmt) { s.C = api.Cond{B: api.Expr{N: 1}} },
				func(s *api.Stmt) { s.C = api.Cond{L: []api.Cond{{}}} },
				func(s *api.Stmt) { s.C = deepConds(tooDeep)[0] },
			}},
	}
}

func listParts() []part {
	free := api.Stmt{Kind: api.Free, Name: "x"}
	return []part{
		{"Inv", []int{api.While}, true,
			func(s *api.Stmt) { s.Inv = []api.Formula{{}} }, func(s *api.Stmt) { s.Inv = nil },
			[]func(s *api.Stmt){
				func(s *api.Stmt) { s.Inv = []api.Formula{{}, {Pure: []api.Atom{{}}}} },
				func(s *api.Stmt) { s.Inv = slices.Repeat([]api.Formula{{}}, api.MaxList+1) },
			}},
		{"Body", []int{api.If, api.While, api.With}, true,
			func(s *api.Stmt) { s.Body = []api.Stmt{free} }, func(s *api.Stmt) { s.Body = nil },
			[]func(s *api.Stmt){
				func(s *api.Stmt) { s.Body = []api.Stmt{free, {}} },
				func(s *api.Stmt) { s.Body = slices.Repeat([]api.Stmt{free}, api.MaxList+1) },
			}},
		{"Else", []int{api.If}, true,
			func(s *api.Stmt) { s.Else = []api.Stmt{free} }, func(s *api.Stmt) { s.Else = nil },
			[]func(s *api.Stmt){
				func(s *api.Stmt) { s.Else = []api.Stmt{{}, free} },
				func(s *api.Stmt) { s.Else = slices.Repeat([]api.Stmt{free}, api.MaxList+1) },
			}},
	}
}

func TestStmtParts(t *testing.T) {
	for _, full := range richStmts() {
		checkStmt(t, full, true)
		for _, x := range stmtParts() {
			own := slices.Contains(x.kinds, full.Kind)
			s := full
			x.set(&s)
			if tree.Stmts([]api.Stmt{s}) != own {
				t.Errorf("kind %d with %s", full.Kind, x.name)
			}
			x.clear(&s)
			if tree.Stmts([]api.Stmt{s}) != (!own || x.optional) {
				t.Errorf("kind %d without %s", full.Kind, x.name)
			}
			for i, wrong := range x.wrong {
				wrong(&s)
				if tree.Stmts([]api.Stmt{s}) {
					t.Errorf("kind %d with %s that is wrong (%d)", full.Kind, x.name, i)
				}
			}
		}
	}
}

func TestStmtEmptyParts(t *testing.T) {
	for _, s := range richStmts() {
		if len(s.Calls) == 0 {
			s.Calls = []api.Call{}
		}
		if s.E.Kind == 0 {
			s.E.L = []api.Expr{}
		}
		if s.C.Kind == 0 {
			s.C = api.Cond{A: api.Expr{L: []api.Expr{}}, B: api.Expr{L: []api.Expr{}}, L: []api.Cond{}}
		}
		s.Inv, s.Body, s.Else = []api.Formula{}, []api.Stmt{}, []api.Stmt{}
		checkStmt(t, s, true)
	}
	checkStmts(t, nil, true)
	checkStmts(t, []api.Stmt{}, true)
}

func TestStmtKinds(t *testing.T) {
	for _, kind := range []int{math.MinInt, -1, 0, 13, 14, 1000, math.MaxInt} {
		checkStmt(t, api.Stmt{Kind: kind}, false)
		for _, s := range richStmts() {
			s.Kind = kind
			checkStmt(t, s, false)
		}
	}
}

func TestStmtNames(t *testing.T) {
	for _, s := range freshNames() {
		for _, x := range richStmts() {
			if x.Name != "" {
				x.Name = s
				checkStmt(t, x, x.Kind != api.With)
			}
		}
		checkStmt(t, api.Stmt{Kind: api.Load, Name: s, From: s, Field: "next"}, true)
		checkStmt(t, api.Stmt{Kind: api.Load, Name: s, From: s, Field: s}, false)
		checkStmt(t, api.Stmt{Kind: api.Save, Name: s, Field: s, E: variable(s)}, false)
		checkStmt(t, api.Stmt{Kind: api.New, Name: s, From: s}, false)
	}
	for _, s := range plainNames() {
		checkStmt(t, api.Stmt{Kind: api.Load, Name: s, From: s, Field: s}, true)
		checkStmt(t, api.Stmt{Kind: api.Save, Name: s, Field: s, E: variable(s)}, true)
		checkStmt(t, api.Stmt{Kind: api.New, Name: s, From: s}, true)
		checkStmt(t, api.Stmt{Kind: api.With, Name: s}, true)
	}
	checkStmt(t, api.Stmt{Kind: api.New, Name: "x", From: "int"}, false)
}

func TestStmtCalls(t *testing.T) {
	for kind, n := range map[int]int{api.Invoke: 1, api.Par: 2} {
		for k := range 5 {
			checkStmt(t, api.Stmt{Kind: kind, Calls: slices.Repeat([]api.Call{call("x", "p")}, k)}, k == n)
		}
		for i := range n {
			check := func(c api.Call, want bool) {
				t.Helper()
				l := slices.Repeat([]api.Call{call("", "p")}, n)
				l[i] = c
				checkStmt(t, api.Stmt{Kind: kind, Calls: l}, want)
			}
			for k := range 12 {
				check(call("x", "p", slices.Repeat([]api.Expr{num(1)}, k)...), k <= api.MaxParams)
			}
			for _, s := range plainNames() {
				check(call(s, s), true)
			}
			for _, s := range freshNames() {
				check(call(s, "p"), true)
				check(call("x", s), false)
			}
			for _, s := range append(wrongNames(), "int") {
				check(call(s, "p"), s == "")
				check(call("x", s), false)
			}
			for _, e := range append(deepExprs(tooDeep), api.Expr{}) {
				check(call("x", "p", num(1), e), false)
			}
			check(call("x", "p", deepExprs(api.MaxDepth)[:api.MaxParams]...), true)
		}
	}
}

func TestStmtPlaces(t *testing.T) {
	for n, want := range map[int]bool{
		math.MinInt: false, -1: false, 0: true, 1: true, api.MaxText: true, api.MaxText + 1: true, api.MaxText + 2: false, math.MaxInt: false,
	} {
		for _, s := range richStmts() {
			s.Pos = api.Pos{Line: n, Column: 1}
			checkStmt(t, s, want)
			checkStmt(t, api.Stmt{Kind: api.With, Name: "M", Body: []api.Stmt{s}}, want)
			s.Pos = api.Pos{Line: 1, Column: n}
			checkStmt(t, s, want)
			checkStmt(t, api.Stmt{Kind: api.If, C: richCond(), Else: []api.Stmt{s}}, want)
		}
	}
}

// nests are the ways in which a list can be inside of a statement.
func nests() []func(l []api.Stmt) api.Stmt {
	c := comparison(api.Eq, num(1), num(1))
	return []func(l []api.Stmt) api.Stmt{
		func(l []api.Stmt) api.Stmt { return api.Stmt{Kind: api.With, Name: "M", Body: l} },
		func(l []api.Stmt) api.Stmt { return api.Stmt{Kind: api.While, C: c, Body: l} },
		func(l []api.Stmt) api.Stmt { return api.Stmt{Kind: api.If, C: c, Body: l} },
		func(l []api.Stmt) api.Stmt { return api.Stmt{Kind: api.If, C: c, Else: l} },
	}
}

func deepList(nest func(l []api.Stmt) api.Stmt, depth int) []api.Stmt {
	free := api.Stmt{Kind: api.Free, Name: "x"}
	l := []api.Stmt{free}
	for range depth - 1 {
		l = []api.Stmt{free, nest(l)}
	}
	return l
}

func deepStmts(depth int) [][]api.Stmt {
	var lists [][]api.Stmt
	for _, nest := range nests() {
		lists = append(lists, deepList(nest, depth))
	}
	return lists
}

func TestStmtsDepth(t *testing.T) {
	for _, l := range deepStmts(api.MaxDepth) {
		checkStmts(t, l, true)
	}
	for _, l := range slices.Concat(deepStmts(tooDeep), deepStmts(veryDeep)) {
		if tree.Stmts(l) {
			t.Error("too deep")
		}
	}
	var l []api.Stmt
	for range api.MaxDepth {
		l = []api.Stmt{{Kind: api.With, Name: "M", Body: l}}
	}
	checkStmts(t, l, true)
	checkStmts(t, []api.Stmt{{Kind: api.With, Name: "M", Body: l}}, false)
	for _, e := range deepExprs(api.MaxDepth) {
		checkStmts(t, []api.Stmt{{Kind: api.Assign, Name: "x", E: e}, {Kind: api.Assert, C: deepConds(api.MaxDepth)[0]}}, true)
	}
}

func TestStmtsLength(t *testing.T) {
	free := []api.Stmt{{Kind: api.Free, Name: "x"}}
	full := slices.Repeat(free, api.MaxList)
	checkStmts(t, full, true)
	checkStmts(t, append(full, free...), false)
	for i := range full {
		wrong := slices.Clone(full)
		wrong[i].Name = ""
		checkStmts(t, wrong, false)
	}
	for _, nest := range nests() {
		checkStmts(t, slices.Repeat([]api.Stmt{nest(full)}, api.MaxList), true)
		checkStmt(t, nest(append(full, free...)), false)
	}
	c := comparison(api.Eq, num(1), num(1))
	for n, want := range map[int]bool{0: true, 1: true, api.MaxList: true, api.MaxList + 1: false} {
		checkStmt(t, api.Stmt{Kind: api.While, C: c, Inv: slices.Repeat([]api.Formula{richFormula()}, n)}, want)
	}
}

func TestStmtsOfProofs(t *testing.T) {
	f := api.Formula{Exists: params(api.MaxList)}
	f.Exists[3].Name = "$3"
	checkStmts(t, []api.Stmt{{Kind: api.Assign, Name: "$x", E: num(api.MaxCoef)}, {Kind: api.While, C: richCond(), Inv: []api.Formula{f}}}, true)
	f.Exists[3] = f.Exists[4]
	checkStmts(t, []api.Stmt{{Kind: api.While, C: richCond(), Inv: []api.Formula{f}}}, false)
}
