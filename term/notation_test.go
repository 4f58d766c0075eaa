package term_test

import (
	"math"
	"strconv"
	"strings"
	"testing"

	"sepal/api"
	"sepal/parse"
	"sepal/term"
)

const (
	most = api.MaxCoef
	huge = math.MaxInt
	low  = math.MinInt
)

// lin returns the linear expression of a text: numbers with their names, and the constant, if any, at the end, as in "4 x -3 y 2".
func lin(text string) api.Linear {
	var l api.Linear
	words := strings.Fields(text)
	for i := 0; i < len(words); i += 2 {
		n, err := strconv.Atoi(words[i])
		if err != nil {
			panic(text)
		}
		if i+1 == len(words) {
			l.C = n
		} else {
			l.L = append(l.L, api.Factor{Name: words[i+1], N: n})
		}
	}
	return l
}

// text is the inverse of lin.
func text(l api.Linear) string {
	var words []string
	for _, f := range l.L {
		words = append(words, strconv.Itoa(f.N), f.Name)
	}
	return strings.Join(append(words, strconv.Itoa(l.C)), " ")
}

// expression returns the expression of a text.
func expression(t *testing.T, text string) api.Expr {
	t.Helper()
	e, _, err := parse.Expr(text)
	if err != api.OK {
		t.Fatal(text, err)
	}
	return e
}

func number(n int) api.Expr { return api.Expr{Kind: api.Num, N: n} }

func variable(name string) api.Expr { return api.Expr{Kind: api.Var, Name: name} }

func multiple(n int, e api.Expr) api.Expr { return api.Expr{Kind: api.Mul, N: n, L: []api.Expr{e}} }

func both(kind int, a, b api.Expr) api.Expr { return api.Expr{Kind: kind, L: []api.Expr{a, b}} }

// great returns the expression n, or n times a variable; n may be greater than a number of a text.
func great(n int, name string) api.Expr {
	if name == "" {
		return number(n)
	}
	return multiple(n, variable(name))
}

// check demands a linear expression and an error.
func check(t *testing.T, about string, l api.Linear, err api.Errno, want string, wantErr api.Errno) {
	t.Helper()
	if wantErr != api.OK {
		want = "0"
	}
	if text(l) != text(lin(want)) || err != wantErr {
		t.Error(about, ":", text(l), err, "instead of", want, wantErr)
	}
	if !term.Valid(l) {
		t.Error(about, ":", text(l), "is not valid")
	}
}

// name returns the name with the number i; their order is that of the numbers from 0 to 999.
func name(i int) string { return "v" + strconv.Itoa(1000+i) }

// long returns a constant with n factors.
func long(c, n int) api.Linear {
	l := api.Linear{C: c}
	for i := range n {
		l.L = append(l.L, api.Factor{Name: name(i), N: i + 2})
	}
	return l
}

// wrong returns linear expressions that are not valid.
func wrong() []api.Linear {
	l := []api.Linear{
		{C: most + 1}, {C: -most - 1}, {C: huge}, {C: low},
		lin("0 x 1"), lin("1 x 0 y 0"), lin("0 x 1 y 0"), lin("1 x 0 y 1 z"),
		{L: []api.Factor{{Name: "x", N: most + 1}}}, {L: []api.Factor{{Name: "x", N: -most - 1}}},
		{L: []api.Factor{{Name: "x", N: huge}}}, {L: []api.Factor{{Name: "x", N: low}}},
		{L: []api.Factor{{Name: "x", N: 1}, {Name: "y", N: most + 1}}},
		{L: []api.Factor{{N: 1}}}, {L: []api.Factor{{N: 1}, {Name: "x", N: 1}}}, {L: []api.Factor{{Name: "x", N: 1}, {N: 1}}},
		lin("1 x 1 x"), lin("1 x -1 x"), lin("1 y 1 x"), lin("1 x 1 y 1 y"), lin("1 x 1 z 1 y"), lin("1 x 1 y 1 x"), lin("1 y 1 x 1 z"),
		lin("1 a 1 B"), lin("1 x 1 X"), lin("1 x1 1 x"), lin("1 x2 1 x10"), lin("1 é 1 z"),
		long(0, api.MaxList+1), long(0, 3*api.MaxList),
	}
	twice := long(1, api.MaxList)
	twice.L[api.MaxList-1].Name = twice.L[api.MaxList-2].Name
	return append(l, twice)
}
