package format_test

import (
	"math"
	"reflect"
	"slices"
	"strings"
	"testing"

	"sepal/api"
	"sepal/format"
	"sepal/lex"
	"sepal/parse"
	"sepal/tree"
)

// parsed returns the tree of the text of a program.
func parsed(t *testing.T, s string) api.Program {
	t.Helper()
	p, place, e := parse.Program(s)
	if e != api.OK {
		t.Fatalf("%v, %d, %q", place, e, s)
	}
	return p
}

func TestEverything(t *testing.T) {
	p := parsed(t, everything)
	checkText(t, format.Program, p, everything)
	checkText(t, indented(1), p.Procs[0].Body, everything[strings.Index(everything, "\ti = -3"):strings.Index(everything, "}\nprocedure f")])
	checkText(t, format.Formula, p.Defs[0].Cases, "x == y || exists Node n, int d: x != y & x -> Node(n, d) & ls(n, y)")
}

// TestOtherTexts formats texts that are not canonical: gaps, parentheses, emp, and the order of items of different kinds leave no trace.
func TestOtherTexts(t *testing.T) {
	tokens, _, _ := lex.Split(everything)
	between := func(gap string) string {
		return strings.ReplaceAll(lex.Join(tokens), " ", gap)
	}
	procs := strings.Index(everything, "procedure")
	change := strings.NewReplacer("x == y ||", "emp & (x) == ((y)) & emp ||", "!(i == 3)", "(((!(i) == 3)))", "i < 3 && ", "((i)) < (3) && ", "{\n\t}", "{ }", "i + 1;", "((i) + (1));", "-3 * (k", "- 3*((k)", "f();", "f ( ) ;")
	for _, s := range []string{between(" "), between("\n"), between(" # } ;\r\n\t"), strings.ReplaceAll(everything, "\n", " "), everything[procs:] + everything[:procs], change.Replace(everything)} {
		checkText(t, format.Program, parsed(t, s), everything)
	}
}

// TestChanges changes each part of a program: what stays valid has another text, which is parsed as the changed program, unless the part is a place.
func TestChanges(t *testing.T) {
	p, unchanged := parsed(t, everything), parsed(t, everything)
	valid, wrong := 0, 0
	visitParts("", reflect.ValueOf(&p).Elem(), func(path string, v reflect.Value) {
		was := reflect.ValueOf(v.Interface())
		for _, other := range others(v) {
			v.Set(other)
			if tree.Program(p) {
				valid++
				checkChanged(t, path, p, unchanged)
			} else {
				wrong++
				checkError(t, format.Program, p, api.ErrArg)
			}
		}
		v.Set(was)
	})
	if valid < 1000 || wrong < 3000 {
		t.Error(valid, wrong)
	}
	checkText(t, format.Program, p, everything)
}

func checkChanged(t *testing.T, path string, p, unchanged api.Program) {
	t.Helper()
	s, e := format.Program(p)
	q := parsed(t, s)
	if e != api.OK || !tree.EqualProgram(p, q) || tree.EqualProgram(p, unchanged) != (s == everything) {
		t.Errorf("%s: %d, %q", path, e, s)
	}
	if again, e := format.Program(q); again != s || e != api.OK {
		t.Errorf("%s: %q, %d, %q", path, s, e, again)
	}
}

// visitParts calls visit for all fields and elements of v, with the names of the fields above them; visit may change them, if it changes them back.
func visitParts(path string, v reflect.Value, visit func(path string, v reflect.Value)) {
	switch v.Kind() {
	case reflect.Struct:
		for i := range v.NumField() {
			visitParts(path+"."+v.Type().Field(i).Name, v.Field(i), visit)
		}
	case reflect.Slice:
		for i := range v.Len() {
			visitParts(path, v.Index(i), visit)
		}
	}
	visit(path, v)
}

// others returns other values for a part of a program.
func others(v reflect.Value) []reflect.Value {
	var l []reflect.Value
	switch v.Kind() {
	case reflect.Int:
		for _, n := range []int{math.MinInt, -api.MaxInt, -1, 0, 1, 2, 4, 5, 7, 12, api.MaxInt + 1} {
			l = append(l, reflect.ValueOf(n))
		}
	case reflect.String:
		for _, s := range []string{"", "other", "int", "$x", "n23456789_123456789_", "n23456789_123456789_1"} {
			l = append(l, reflect.ValueOf(s))
		}
	case reflect.Bool:
		l = append(l, reflect.ValueOf(!v.Bool()))
	case reflect.Slice:
		empty, n := reflect.MakeSlice(v.Type(), 0, 1), v.Len()
		l = append(l, reflect.Zero(v.Type()), empty, reflect.Append(v.Slice3(0, n, n), reflect.Zero(v.Type().Elem())))
		if n > 0 {
			l = append(l, v.Slice(1, n), v.Slice(0, n-1), reflect.AppendSlice(v.Slice3(0, n, n), v.Slice(0, 1)))
		}
	}
	return l
}

// TestRoundTripsOfParts has the longest names and the greatest numbers that texts can have.
func TestRoundTripsOfParts(t *testing.T) {
	long := strings.Repeat("n", api.MaxName)
	for _, s := range []string{
		"1048576 - -1048576 * (-1048576 + 0)", long + " - (" + long + " - null)", "-1 * (-1 * -1)", "0 - (0 + 0)", "emp1 + Null", "x - -1 - (-1 - y)",
	} {
		e, _, _ := parse.Expr(s)
		checkText(t, format.Expr, e, s)
		c, _, _ := parse.Cond(s + " <= " + s + " || !(" + s + " < 1)")
		checkText(t, format.Cond, c, s+" <= "+s+" || !("+s+" < 1)")
		f := s + " -> " + long + "(" + s + ", " + s + ")"
		l, _, _ := parse.Formula("exists " + long + " " + long + ": 0 != " + s + " & " + f + " || ls(" + s + ")")
		checkText(t, format.Formula, l, "exists "+long+" "+long+": 0 != "+s+" & "+f+" || ls("+s+")")
		body := "\tx = " + s + ";\n\tx.f = " + s + ";\n\tassert " + s + " == 1;\n\tpar { p(" + s + "); } { x = p(" + s + "); }\n"
		program := "procedure p() {\n" + body + "}\n"
		checkText(t, format.Program, parsed(t, program), program)
	}
}

// TestPlacesAndEmptyLists demands that equal trees have the same text: places, and whether an empty list is nil, do not matter.
func TestPlacesAndEmptyLists(t *testing.T) {
	p := parsed(t, everything)
	n := 0
	visitParts("", reflect.ValueOf(&p).Elem(), func(path string, v reflect.Value) {
		n++
		switch x := v.Addr().Interface().(type) {
		case *api.Pos:
			*x = api.Pos{Line: api.MaxText - n, Column: n % 7}
		default:
			if v.Kind() == reflect.Slice && v.Len() == 0 {
				v.Set(reflect.MakeSlice(v.Type(), 0, 1))
			}
		}
	})
	checkText(t, format.Program, p, everything)
	checkText(t, format.Expr, api.Expr{Kind: api.Null, L: []api.Expr{}}, "null")
	checkText(t, indented(0), []api.Stmt{}, "")
	checkText(t, one, api.Formula{Exists: []api.Param{}, Pure: []api.Atom{}, Cells: []api.Cell{}}, "emp")
	checkText(t, format.Program, api.Program{Records: []api.Record{}, Globals: []api.Param{}, Locks: []api.Lock{}, Defs: []api.Def{}, Lemmas: []api.Lemma{}, Procs: []api.Proc{}}, "")
}

// TestLongTexts lets a program grow until its text cannot be parsed anymore.
func TestLongTexts(t *testing.T) {
	x := name("x23456789")
	call := api.Stmt{Kind: api.Invoke, Calls: []api.Call{call("", "p", slices.Repeat([]api.Expr{x}, api.MaxParams)...)}}
	p := api.Program{Procs: slices.Repeat([]api.Proc{{Name: "p", Body: slices.Repeat([]api.Stmt{call}, 6)}}, api.MaxList)}
	for i := range p.Procs {
		s, e := format.Program(p)
		if e != api.OK {
			t.Fatal(i, e)
		}
		q, _, e := parse.Program(s)
		if len(s) > api.MaxText {
			if e != api.ErrFull || i < 10 {
				t.Error(i, e)
			}
			return
		}
		if e != api.OK || !tree.EqualProgram(p, q) {
			t.Fatal(i, e)
		}
		p.Procs[i].Body = slices.Repeat(p.Procs[i].Body, 2)
	}
	t.Error("no text is too long")
}
