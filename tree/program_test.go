package tree_test

import (
	"math"
	"reflect"
	"slices"
	"strings"
	"testing"

	"sepal/api"
	"sepal/tree"
)

func checkProgram(t *testing.T, p api.Program, want bool) {
	t.Helper()
	if tree.Program(p) != want {
		t.Errorf("Program(%v) is %v", p, !want)
	}
}

// checkEach changes the parts of a kind in the rich program, one at a time, to each of these values; want says whether the program stays valid.
func checkEach[T any](t *testing.T, kind reflect.Kind, values []T, want func(path string, was reflect.Value, x T) bool) {
	t.Helper()
	p := richProgram()
	parts(&p, func(path string, v reflect.Value) {
		if v.Kind() != kind {
			return
		}
		was := reflect.ValueOf(v.Interface())
		for _, x := range values {
			with(v, x, func() {
				if tree.Program(p) != want(path, was, x) {
					t.Errorf("%s: %v, then %v", path, was, x)
				}
			})
		}
	})
}

func TestProgramNames(t *testing.T) {
	checkProgram(t, richProgram(), true)
	isResult := func(path string) bool { return strings.HasSuffix(path, "Call.Result") }
	checkEach(t, reflect.String, []string{"zz", "abcdefghijklmnopqrst"}, func(path string, was reflect.Value, _ string) bool {
		return was.String() != "" || isResult(path)
	})
	wrong := []string{"2x", "free", "$a", "$", "a b", "abcdefghijklmnopqrstu"}
	checkEach(t, reflect.String, wrong, func(string, reflect.Value, string) bool { return false })
	checkEach(t, reflect.String, []string{""}, func(path string, was reflect.Value, _ string) bool {
		return was.String() == "" || isResult(path)
	})
	checkEach(t, reflect.String, []string{"int"}, func(path string, was reflect.Value, _ string) bool {
		return strings.HasSuffix(path, "Param.Type") && was.String() != ""
	})
}

func TestProgramNumbers(t *testing.T) {
	out := []int{api.MaxInt + 1, -api.MaxInt - 1, math.MinInt}
	checkEach(t, reflect.Int, out, func(string, reflect.Value, int) bool { return false })
	checkEach(t, reflect.Int, []int{api.MaxInt, -api.MaxInt}, func(path string, was reflect.Value, _ int) bool {
		return strings.HasSuffix(path, "Expr.N") && was.Int() != 0
	})
	checkEach(t, reflect.Int, []int{0, api.MaxText, api.MaxText + 1, api.MaxText + 2, -1}, func(path string, was reflect.Value, n int) bool {
		switch {
		case isPlace(path):
			return 0 <= n && n <= api.MaxText+1
		case strings.HasSuffix(path, "Expr.N"):
			return n == 0 || was.Int() != 0
		}
		return n == 0 && was.Int() == 0
	})
}

func TestProgramNumbersThatAreZero(t *testing.T) {
	for _, e := range []api.Expr{num(api.MaxInt), num(-api.MaxInt), mul(api.MaxInt, num(0)), mul(-api.MaxInt, variable("x"))} {
		p := richProgram()
		p.Procs[0].Body = []api.Stmt{{Kind: api.Assign, Name: "x", E: e}}
		checkProgram(t, p, true)
		p.Procs[0].Body[0].E.N *= 2
		checkProgram(t, p, false)
	}
}

func TestProgramContract(t *testing.T) {
	checkEach(t, reflect.Bool, []bool{false, true}, func(_ string, was reflect.Value, x bool) bool { return was.Bool() == x })
	p := richProgram()
	p.Procs[1].Contract = true
	p.Procs[1].Requires = []api.Formula{{}}
	checkProgram(t, p, false)
	p.Procs[1].Ensures = []api.Formula{{}}
	checkProgram(t, p, true)
	p.Procs[1].Requires = nil
	checkProgram(t, p, false)
	for _, change := range []func(x *api.Proc){
		func(x *api.Proc) { x.Requires = []api.Formula{{}} },
		func(x *api.Proc) { x.Ensures = []api.Formula{{}} },
		func(x *api.Proc) { x.Logical = params(1) },
	} {
		p = richProgram()
		change(&p.Procs[1])
		checkProgram(t, p, false)
		p.Procs[1].Logical, p.Procs[1].Requires, p.Procs[1].Ensures = []api.Param{}, []api.Formula{}, []api.Formula{}
		checkProgram(t, p, true)
	}
}

func TestProgramResult(t *testing.T) {
	for want, l := range map[bool][]api.Param{
		true:  {{}, param("int", "r"), param("Node", "Node")},
		false: {param("int", ""), param("", "r"), param("int", "int"), param("free", "r"), param("int", "$r"), param("$T", "r")},
	} {
		for _, r := range l {
			p := richProgram()
			p.Procs[1].Result = r
			checkProgram(t, p, want)
		}
	}
}

// A list of a program, with its valid lengths.
type list struct {
	name        string
	least, most int
	set         func(p *api.Program, n int)
}

func programLists() []list {
	formulas := func(n int) []api.Formula { return slices.Repeat([]api.Formula{{}}, n) }
	return []list{
		{"records", 0, api.MaxList, func(p *api.Program, n int) { p.Records = slices.Repeat(p.Records[:1], n) }},
		{"fields", 1, api.MaxParams, func(p *api.Program, n int) { p.Records[0].Fields = params(n) }},
		{"globals", 0, api.MaxList, func(p *api.Program, n int) { p.Globals = params(n) }},
		{"locks", 0, api.MaxList, func(p *api.Program, n int) { p.Locks = slices.Repeat(p.Locks[:1], n) }},
		{"invariant of a lock", 1, api.MaxList, func(p *api.Program, n int) { p.Locks[0].Inv = formulas(n) }},
		{"definitions", 0, api.MaxList, func(p *api.Program, n int) { p.Defs = slices.Repeat(p.Defs[:1], n) }},
		{"parameters of a definition", 1, api.MaxParams, func(p *api.Program, n int) { p.Defs[0].Params = params(n) }},
		{"cases", 1, api.MaxList, func(p *api.Program, n int) { p.Defs[0].Cases = formulas(n) }},
		{"lemmas", 0, api.MaxList, func(p *api.Program, n int) { p.Lemmas = slices.Repeat(p.Lemmas[:1], n) }},
		{"parameters of a lemma", 0, api.MaxParams, func(p *api.Program, n int) { p.Lemmas[0].Params = params(n) }},
		{"procedures", 0, api.MaxList, func(p *api.Program, n int) { p.Procs = slices.Repeat(p.Procs[1:], n) }},
		{"parameters", 0, api.MaxParams, func(p *api.Program, n int) { p.Procs[0].Params = params(n) }},
		{"logical variables", 0, api.MaxParams, func(p *api.Program, n int) { p.Procs[0].Logical = params(n) }},
		{"precondition", 1, api.MaxList, func(p *api.Program, n int) { p.Procs[0].Requires = formulas(n) }},
		{"postcondition", 1, api.MaxList, func(p *api.Program, n int) { p.Procs[0].Ensures = formulas(n) }},
		{"locals", 0, api.MaxList, func(p *api.Program, n int) { p.Procs[0].Locals = params(n) }},
		{"body", 0, api.MaxList, func(p *api.Program, n int) {
			p.Procs[0].Body = slices.Repeat([]api.Stmt{{Kind: api.Free, Name: "x"}}, n)
		}},
		{"invariant of a loop", 0, api.MaxList, func(p *api.Program, n int) {
			p.Procs[0].Body = []api.Stmt{{Kind: api.While, C: richCond(), Inv: formulas(n)}}
		}},
	}
}

func TestProgramLists(t *testing.T) {
	for _, x := range programLists() {
		for _, n := range []int{0, 1, 2, api.MaxParams, api.MaxParams + 1, api.MaxList, api.MaxList + 1} {
			p := richProgram()
			x.set(&p, n)
			if tree.Program(p) != (x.least <= n && n <= x.most) {
				t.Errorf("%s: %d", x.name, n)
			}
		}
	}
	checkProgram(t, api.Program{}, true)
	checkProgram(t, api.Program{Records: []api.Record{}, Globals: []api.Param{}, Locks: []api.Lock{}, Defs: []api.Def{}, Lemmas: []api.Lemma{}, Procs: []api.Proc{}}, true)
}

// TestProgramFormulas changes each formula of a program, those of loops included.
func TestProgramFormulas(t *testing.T) {
	p := richProgram()
	n := 0
	twice := []api.Param{param("int", "a"), param("Node", "a")}
	formula := reflect.TypeOf(api.Formula{})
	parts(&p, func(path string, v reflect.Value) {
		if v.Type() != formula {
			return
		}
		n++
		for want, l := range map[bool][]api.Formula{
			true: {{}, richFormula(), {Exists: params(api.MaxParams)}, {Cells: slices.Repeat([]api.Cell{cell(api.Pred, "p", null())}, api.MaxList)}},
			false: {
				{Exists: params(api.MaxParams + 1)}, {Exists: twice}, {Exists: []api.Param{param("int", "$a")}},
				{Pure: []api.Atom{atom(api.Eq, num(api.MaxInt+1), num(0))}}, {Pure: []api.Atom{atom(api.Eq, num(0), variable("$a"))}}, {Pure: []api.Atom{{}}},
				{Cells: []api.Cell{cell(api.Pred, "p", variable("$a"))}}, {Cells: []api.Cell{cell(api.PointsTo, "R", num(1), num(-api.MaxInt-1))}}, {Cells: []api.Cell{{}}},
			},
		} {
			for _, f := range l {
				with(v, f, func() { checkProgram(t, p, want) })
			}
		}
	})
	if n < 14 {
		t.Error("only", n)
	}
}

func TestProgramDepth(t *testing.T) {
	for _, l := range deepStmts(api.MaxDepth) {
		checkProgram(t, api.Program{Procs: []api.Proc{{Name: "p", Body: l}}}, true)
	}
	for _, l := range slices.Concat(deepStmts(tooDeep), deepStmts(veryDeep)) {
		if tree.Program(api.Program{Procs: []api.Proc{{Name: "p", Body: l}}}) {
			t.Error("too deep")
		}
	}
	for _, e := range slices.Concat(deepExprs(api.MaxDepth), deepExprs(tooDeep)) {
		checkProgram(t, api.Program{Locks: []api.Lock{{Name: "M", Inv: []api.Formula{{Pure: []api.Atom{atom(api.Eq, e, null())}}}}}}, tree.Expr(e))
	}
	for _, c := range slices.Concat(deepConds(api.MaxDepth), deepConds(tooDeep)) {
		checkProgram(t, api.Program{Procs: []api.Proc{{Name: "p", Body: []api.Stmt{{Kind: api.Assert, C: c}}}}}, tree.Cond(c))
	}
}

// TestPartsOfValidTrees asks about each part that is not zero, because a zero one is a field that is not used.
func TestPartsOfValidTrees(t *testing.T) {
	p := richProgram()
	p.Procs[0].Body = append(p.Procs[0].Body, deepStmts(api.MaxDepth)[2]...)
	p.Procs[0].Body[0].E = deepExprs(api.MaxDepth)[1]
	p.Procs[0].Body[9].C = deepConds(api.MaxDepth)[3]
	checkProgram(t, p, true)
	n := 0
	parts(&p, func(path string, v reflect.Value) {
		if v.IsZero() {
			return
		}
		n++
		valid := true
		switch x := v.Interface().(type) {
		case api.Expr:
			valid = tree.Expr(x)
		case api.Cond:
			valid = tree.Cond(x)
		case api.Formula:
			valid = tree.Formula(x)
		case []api.Stmt:
			valid = tree.Stmts(x)
		default:
			n--
		}
		if !valid {
			t.Error(path)
		}
	})
	if n < 300 {
		t.Error("only", n)
	}
}
