package pure_test

import (
	"slices"
	"strconv"
	"strings"
	"testing"

	"sepal/api"
	"sepal/pure"
	"sepal/term"
)

// lin returns the linear expression of a text: numbers with their names, and the constant, if any, at the end, as in "4 x -3 y 2".
func lin(text string) api.Linear {
	var l api.Linear
	words := strings.Fields(text)
	for i := 0; i < len(words); i += 2 {
		n, err := strconv.Atoi(words[i])
		if err != nil {
			panic(text)
		}
		if i+1 == len(words) {
			l.C = n
		} else {
			l.L = append(l.L, api.Factor{Name: words[i+1], N: n})
		}
	}
	return l
}

// linears returns the linear expressions of a text, with commas in between.
func linears(text string) []api.Linear {
	var l []api.Linear
	for _, s := range strings.Split(text, ", ") {
		l = append(l, lin(s))
	}
	return l
}

// checkConstraints demands constraints, or an error.
func checkConstraints(t *testing.T, about string, a api.Atom, want []api.Linear, wantErr api.Errno) {
	t.Helper()
	l, err := pure.Constraints(a)
	if err != wantErr || !slices.EqualFunc(l, want, term.Equal) {
		t.Error(about, ":", l, err, "instead of", want, wantErr)
	}
	for _, c := range l {
		if !term.Valid(c) {
			t.Error(about, ":", c, "is not valid")
		}
	}
}

func TestConstraints(t *testing.T) {
	for _, c := range []struct{ a, want string }{
		{"x < y + 3", "1 x -1 y -2"},
		{"x == y", "1 x -1 y, -1 x 1 y"}, {"x <= y", "1 x -1 y"}, {"x < y", "1 x -1 y 1"}, {"y < x", "-1 x 1 y 1"},
		{"x == 4", "1 x -4, -1 x 4"}, {"4 == x", "-1 x 4, 1 x -4"}, {"x <= 4", "1 x -4"}, {"4 <= x", "-1 x 4"}, {"x < 4", "1 x -3"}, {"4 < x", "-1 x 5"}, {"x < 1", "1 x 0"}, {"x < -1", "1 x 2"},
		{"x == x", "0, 0"}, {"x <= x", "0"}, {"x < x", "1"}, {"1 == 2", "-1, 1"}, {"2 == 1", "1, -1"}, {"1 <= 2", "-1"}, {"1 < 2", "0"}, {"2 < 1", "2"},
		{"null == x", "-1 x, 1 x"}, {"x == null", "1 x, -1 x"}, {"null <= null", "0"}, {"null < 0", "1"},
		{"2 * x + 1 == 3 * (y - z) - 5", "2 x -3 y 3 z 6, -2 x 3 y -3 z -6"}, {"x + y <= y + x + 7", "-7"}, {"x - y < x + y", "-2 y 1"}, {"0 * x <= 1", "-1"}, {"b <= a", "-1 a 1 b"},
	} {
		checkConstraints(t, c.a, atom(c.a), linears(c.want), api.OK)
	}
	proof := compared(api.Le, variable("$b"), variable("a"))
	checkConstraints(t, "names of proofs", proof, linears("1 $b -1 a"), api.OK)
}

// TestConstraintsWrong demands ErrArg for atoms that are not valid, also of the kind Ne, and also if something is too big.
func TestConstraintsWrong(t *testing.T) {
	for i, a := range wrongAtoms() {
		checkConstraints(t, strconv.Itoa(i), a, nil, api.ErrArg)
	}
}

// TestConstraintsNe demands ErrForm, also if something is too big.
func TestConstraintsNe(t *testing.T) {
	big := multiple(2, number(most))
	for _, a := range []api.Atom{
		atom("x != 4"), atom("x != x"), atom("1 != 2"), compared(api.Ne, big, variable("x")), compared(api.Ne, variable("x"), big), compared(api.Ne, number(most), number(-most)), compared(api.Ne, long(0, 101), number(1)),
	} {
		checkConstraints(t, text(a), a, nil, api.ErrForm)
	}
}

// checkBound demands the constraints of A == B, A <= B, and A < B, for numbers or for coefficients of a name:
// n is that of A - B, and the others are none if it is too big, or A or B is. Of A < B, there is none either if the constant of A - B + 1 is too big.
func checkBound(t *testing.T, name string, a, b api.Expr, n int, ok bool) {
	t.Helper()
	linear := func(n int) api.Linear {
		if name == "" || n == 0 {
			return api.Linear{C: n}
		}
		return api.Linear{L: []api.Factor{{Name: name, N: n}}}
	}
	err, equal, atMost, less := api.ErrBig, []api.Linear(nil), []api.Linear(nil), []api.Linear(nil)
	if ok {
		err, equal, atMost, less = api.OK, []api.Linear{linear(n), linear(-n)}, []api.Linear{linear(n)}, []api.Linear{linear(n)}
		less[0].C++
	}
	checkConstraints(t, "Eq", compared(api.Eq, a, b), equal, err)
	checkConstraints(t, "Le", compared(api.Le, a, b), atMost, err)
	if ok && less[0].C > most {
		less, err = nil, api.ErrBig
	}
	checkConstraints(t, "Lt", compared(api.Lt, a, b), less, err)
}

// TestConstraintsBig demands the range of all numbers of the steps by which constraints are computed.
func TestConstraintsBig(t *testing.T) {
	for _, x := range []string{"", "x"} {
		of := func(n int) api.Expr { return great(n, x) }
		for _, c := range []struct {
			a, b api.Expr
			n    int
			ok   bool
		}{
			{of(most), of(0), most, true}, {of(0), of(most), -most, true}, {of(-most), of(0), -most, true}, {of(0), of(-most), most, true},
			{of(most), of(most), 0, true}, {of(-most), of(-most), 0, true}, {of(most), of(1), most - 1, true}, {of(1), of(most), 1 - most, true}, {of(most - 1), of(-1), most, true}, {of(1 - most), of(1), -most, true},
			{of(most), of(-1), 0, false}, {of(-1), of(most), 0, false}, {of(-most), of(1), 0, false}, {of(1), of(-most), 0, false}, {of(most), of(-most), 0, false}, {of(-most), of(most), 0, false},
			{of(most / 2), of(-most / 2), most, true}, {of(-most / 2), of(most / 2), -most, true}, {of(most/2 + 1), of(-most / 2), 0, false}, {of(-most / 2), of(most/2 + 1), 0, false},
			// A side that is too big alone is not made right by the other one, or by what is around a part.
			{sum(of(most), of(1)), of(1), 0, false}, {of(1), sum(of(most), of(1)), 0, false}, {multiple(2, of(most)), multiple(2, of(most)), 0, false}, {difference(of(-most), of(1)), of(-1), 0, false},
			{multiple(0, multiple(2, of(most))), of(0), 0, false}, {of(0), multiple(0, multiple(2, of(most))), 0, false}, {difference(sum(of(most), of(1)), of(1)), of(most), 0, false},
		} {
			checkBound(t, x, c.a, c.b, c.n, c.ok)
		}
	}
	// The constant of A - B + 1 is the only number in which it differs from A - B.
	checkConstraints(t, "one more", compared(api.Lt, sum(variable("x"), number(most)), number(0)), nil, api.ErrBig)
	checkConstraints(t, "one more", compared(api.Lt, sum(variable("x"), number(most)), number(1)), []api.Linear{{C: most, L: lin("1 x").L}}, api.OK)
	checkConstraints(t, "a difference that is too small by 1", compared(api.Lt, number(-most), number(1)), nil, api.ErrBig)
	checkConstraints(t, "the least", compared(api.Lt, number(-most), number(0)), []api.Linear{{C: 1 - most}}, api.OK)
}

// TestConstraintsMany demands at most MaxList factors of each side, and of their difference.
func TestConstraintsMany(t *testing.T) {
	const n = api.MaxList
	zero := number(0)
	for i, c := range []struct {
		a, b api.Expr
		n    int
	}{
		{long(0, n), zero, n}, {zero, long(0, n), n}, {long(0, n), long(0, n), 0}, {long(0, n), long(1, n), 1}, {long(0, n), variable(name(n - 1)), n - 1}, {long(0, n-1), variable(name(n - 1)), n}, {long(0, n/2), long(n/2, n), n},
		{long(0, n), variable(name(n)), -1}, {variable(name(n)), long(0, n), -1}, {long(0, n/2), long(n/2, n+1), -1},
		{long(0, n+1), zero, -1}, {zero, long(0, n+1), -1}, {long(0, n+1), long(0, n+1), -1}, {long(0, n+1), variable(name(n)), -1}, {variable(name(n)), long(0, n+1), -1},
		// A part of a side may have more factors.
		{difference(long(0, n+1), variable(name(n))), zero, n}, {zero, multiple(0, long(0, 2*n)), 0},
	} {
		for _, kind := range []int{api.Eq, api.Le, api.Lt} {
			l, err := pure.Constraints(compared(kind, c.a, c.b))
			if c.n < 0 {
				if err != api.ErrBig || len(l) > 0 {
					t.Error(i, kind, err)
				}
			} else if err != api.OK || len(l) == 0 || len(l[0].L) != c.n || len(l[len(l)-1].L) != c.n {
				t.Error(i, kind, l, err)
			}
		}
	}
}
