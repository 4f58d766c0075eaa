package pure_test

import (
	"reflect"
	"runtime"
	"testing"

	"sepal/api"
	"sepal/pure"
)

// span is the memory of a list, up to its capacity.
type span struct{ from, to uintptr }

// spans appends the memory of all lists in a value.
func spans(v reflect.Value, l []span) []span {
	switch v.Kind() {
	case reflect.Interface:
		l = spans(v.Elem(), l)
	case reflect.Struct:
		for i := range v.NumField() {
			l = spans(v.Field(i), l)
		}
	case reflect.Slice:
		if size := uintptr(v.Cap()) * v.Type().Elem().Size(); size > 0 {
			l = append(l, span{v.Pointer(), v.Pointer() + size})
		}
		for i := range v.Len() {
			l = spans(v.Index(i), l)
		}
	}
	return l
}

// checkApart demands that no two lists in all these values share memory.
func checkApart(t *testing.T, about string, values ...any) {
	t.Helper()
	// As long as the values are alive, their memory is used for nothing else.
	defer runtime.KeepAlive(values)
	l := spans(reflect.ValueOf(values), nil)
	for i, a := range l {
		for _, b := range l[:i] {
			if a.from < b.to && b.from < a.to {
				t.Fatal(about, ": lists share memory")
			}
		}
	}
}

// roomyExpr returns a copy of an expression whose lists have room behind their ends, in which something stands.
func roomyExpr(e api.Expr) api.Expr {
	var l []api.Expr
	for _, x := range e.L {
		l = append(l, roomyExpr(x))
	}
	e.L = append(l, api.Expr{Kind: 5, Name: "behind"}, api.Expr{Name: "more"})[:len(l)]
	return e
}

func roomyAtom(a api.Atom) api.Atom { return compared(a.Kind, roomyExpr(a.A), roomyExpr(a.B)) }

func roomyAtoms(l []api.Atom) []api.Atom {
	var to []api.Atom
	for _, a := range l {
		to = append(to, roomyAtom(a))
	}
	return append(to, atom("behind == behind"), api.Atom{})[:len(to)]
}

func roomyCond(c api.Cond) api.Cond {
	var l []api.Cond
	for _, x := range c.L {
		l = append(l, roomyCond(x))
	}
	c.A, c.B, c.L = roomyExpr(c.A), roomyExpr(c.B), append(l, condition("1 < behind"), api.Cond{})[:len(l)]
	return c
}

// whole returns a copy of a value in which all lists reach up to their capacities.
func whole(v reflect.Value) reflect.Value {
	to := reflect.New(v.Type()).Elem()
	to.Set(v)
	switch v.Kind() {
	case reflect.Struct:
		for i := range v.NumField() {
			to.Field(i).Set(whole(v.Field(i)))
		}
	case reflect.Slice:
		to.Set(reflect.MakeSlice(v.Type(), v.Cap(), v.Cap()))
		for i := range v.Cap() {
			to.Index(i).Set(whole(v.Slice(0, v.Cap()).Index(i)))
		}
	}
	return to
}

// checkCall demands that a call does not change its argument, also behind the ends of its lists, and that its result shares no memory with the argument, with that of another call, or within itself.
func checkCall[A any](t *testing.T, about string, a A, call func(A) any) {
	t.Helper()
	before := whole(reflect.ValueOf(a)).Interface()
	first, second := call(a), call(a)
	checkApart(t, about, a, first, second)
	if !reflect.DeepEqual(first, second) || !reflect.DeepEqual(whole(reflect.ValueOf(a)).Interface(), before) {
		t.Error(about, ": something has changed")
	}
}

func memoryAtoms() []api.Atom {
	l := []api.Atom{atom("x == y"), atom("x + 2 * y <= 3 * (x - z)"), atom("x + x < x + x"), atom("x + y != y + x"), atom("2 * x == 2 * x"), atom("1 < 2")}
	inside := api.Expr{Kind: 77, L: []api.Expr{variable("x"), {Kind: api.Var, Name: "y", L: []api.Expr{variable("x"), sum(variable("x"), number(1))}}}}
	for _, kind := range append(otherKinds, kinds...) {
		l = append(l, compared(kind, inside, sum(inside, variable("x"))))
	}
	return l
}

func TestMemoryOfAtoms(t *testing.T) {
	for _, x := range memoryAtoms() {
		a := roomyAtom(x)
		checkCall(t, "Negate", a, func(a api.Atom) any { return pure.Negate(a) })
		checkCall(t, "Constraints", a, func(a api.Atom) any {
			l, _ := pure.Constraints(a)
			return l
		})
		checkCall(t, "Trivial", a, func(a api.Atom) any {
			holds, known := pure.Trivial(a)
			return []bool{holds, known}
		})
		checkCall(t, "Equal", a, func(a api.Atom) any { return pure.Equal(a, a) })
		for _, by := range []api.Expr{roomyExpr(number(3)), roomyExpr(sum(variable("x"), multiple(2, variable("y")))), roomyExpr(a.A)} {
			two := []api.Atom{a, compared(api.Eq, by, number(0))}
			checkCall(t, "Replace", two, func(l []api.Atom) any { return pure.Replace(l[0], "x", l[1].A) })
			checkCall(t, "Replace none", two, func(l []api.Atom) any { return pure.Replace(l[0], "none", l[1].A) })
		}
	}
}

func TestMemoryOfLists(t *testing.T) {
	l := memoryAtoms()
	for _, x := range [][]api.Atom{nil, l, l[:1], append(l[2:], l...), {l[1], l[1], l[1]}} {
		checkCall(t, "Vars", roomyAtoms(x), func(l []api.Atom) any { return pure.Vars(l) })
		checkCall(t, "Sorted", roomyAtoms(x), func(l []api.Atom) any { return pure.Sorted(l) })
	}
}

func TestMemoryOfCases(t *testing.T) {
	for _, c := range []string{
		"x + 1 < y", "!(x + 1 < y)", "x + 1 < y && 2 * x == y", "x + 1 < y || 2 * x == y", "!!(x + 1 != y - x)",
		"(x + 1 < y || y - 1 <= x) && (2 * x == y || 3 * x != y)", "!(x + 1 < y && y - 1 <= x || 2 * x == y && 3 * x != y)", "x + x == y && (y + 1 == x || y + 2 == x || x < 1)", "(y + 1 == x || y + 2 == x || x < 1) && x + x == y",
	} {
		checkCall(t, c, roomyCond(condition(c)), func(c api.Cond) any {
			l, _ := pure.Cases(c)
			return l
		})
	}
	checkCall(t, "no condition", roomyCond(api.Cond{L: []api.Cond{condition("x == 1")}}), func(c api.Cond) any {
		l, _ := pure.Cases(c)
		return l
	})
}

// nested returns an expression of very many levels.
func nested(name string) api.Expr {
	e := variable(name)
	for range 1 << 16 {
		e = api.Expr{Kind: api.Mul, N: 2, L: []api.Expr{e}}
	}
	return e
}

// TestDeepTrees demands results also for trees with very many levels.
func TestDeepTrees(t *testing.T) {
	e := nested("x")
	a, b := compared(api.Lt, e, number(1)), compared(api.Le, number(1), e)
	checkDeep := func(about string, ok bool) {
		if !ok {
			t.Error(about)
		}
	}
	checkDeep("Negate", pure.Equal(pure.Negate(a), b) && !pure.Equal(a, b))
	checkDeep("Replace", pure.Equal(pure.Replace(a, "x", variable("y")), compared(api.Lt, nested("y"), number(1))))
	checkDeep("Vars", len(pure.Vars([]api.Atom{a, b})) == 1)
	checkDeep("Sorted", len(pure.Sorted([]api.Atom{a, b, a, compared(api.Lt, nested("a"), number(1))})) == 3)
	checkTrivial(t, "Trivial", compared(api.Eq, e, e), false, false)
	checkConstraints(t, "Constraints", a, nil, api.ErrArg)
	c := asCond(a)
	for range 1 << 16 {
		c = not(c)
	}
	_, err := pure.Cases(c)
	checkDeep("Cases", err == api.ErrArg)
}
