package types_test

import (
	"reflect"
	"slices"
	"testing"

	"sepal/api"
	"sepal/tree"
	"sepal/types"
)

// parts calls visit for all strings and numbers in v; visit may change them, if it changes them back.
func parts(v reflect.Value, visit func(reflect.Value)) {
	switch v.Kind() {
	case reflect.Struct:
		for i := range v.NumField() {
			parts(v.Field(i), visit)
		}
	case reflect.Slice:
		for i := range v.Len() {
			parts(v.Index(i), visit)
		}
	case reflect.String, reflect.Int:
		visit(v)
	}
}

// changed calls visit for the rich program, in which each string and each number is set to each of these values, one at a time.
func changed(t *testing.T, names []string, numbers []int, visit func(p api.Program)) {
	p := parsed(t, richText)
	parts(reflect.ValueOf(&p).Elem(), func(v reflect.Value) {
		was := reflect.ValueOf(v.Interface())
		if v.Kind() == reflect.String {
			for _, s := range names {
				v.SetString(s)
				visit(p)
			}
		} else {
			for _, n := range numbers {
				v.SetInt(int64(n))
				visit(p)
			}
		}
		v.Set(was)
	})
	if !reflect.DeepEqual(p, parsed(t, richText)) {
		t.Error("changed")
	}
}

// someNames are names of the rich program of every kind, and others.
func someNames() []string {
	return []string{"A", "C", "a1", "b2", "c1", "g1", "g3", "L2", "P1", "P2", "x1", "x2", "y1", "i1", "i4", "u2", "M2", "p2", "v1", "v2", "v3", "v4", "v5", "v6", "v7", "w1", "w2", "w3", "zz", "int"}
}

// exchanged returns a program whose items are in the opposite order.
func exchanged(p api.Program) api.Program {
	return api.Program{Records: reversed(p.Records), Globals: reversed(p.Globals), Locks: reversed(p.Locks), Defs: reversed(p.Defs), Lemmas: reversed(p.Lemmas), Procs: reversed(p.Procs)}
}

func reversed[T any](l []T) []T {
	l = slices.Clone(l)
	slices.Reverse(l)
	return l
}

func TestExchange(t *testing.T) {
	right, wrong := 0, 0
	changed(t, someNames(), nil, func(p api.Program) {
		valid := types.Valid(p)
		if types.Valid(exchanged(p)) != valid {
			t.Fatal("not valid any more, or valid:", p)
		}
		if valid {
			right++
		} else {
			wrong++
		}
	})
	if right < 400 || wrong < 4000 {
		t.Error(right, wrong)
	}
}

// used returns the names of the variables that a statement uses or assigns to, but not those of its invariant.
func used(s api.Stmt) []string {
	l := tree.Vars(s.E)
	l = append(l, condVars(s.C)...)
	for _, c := range s.Calls {
		for _, e := range c.Args {
			l = append(l, tree.Vars(e)...)
		}
		l = append(l, c.Result)
	}
	if s.Kind != api.With {
		l = append(l, s.Name)
	}
	if s.Kind == api.Load {
		l = append(l, s.From)
	}
	return slices.DeleteFunc(l, func(x string) bool { return x == "" })
}

func condVars(c api.Cond) []string {
	l := append(tree.Vars(c.A), tree.Vars(c.B)...)
	for _, x := range c.L {
		l = append(l, condVars(x)...)
	}
	return l
}

func TestVariablesOfStatements(t *testing.T) {
	seen := map[string]bool{}
	changed(t, someNames(), nil, func(p api.Program) {
		if !types.Valid(p) {
			return
		}
		for _, x := range p.Procs {
			scope, _ := types.Scope(p, x.Name)
			for _, s := range tree.Walk(x.Body) {
				for _, name := range used(s) {
					seen[name] = true
					is := func(y api.Param) bool { return y.Name == name }
					if !slices.ContainsFunc(scope, is) || slices.ContainsFunc(x.Logical, is) {
						t.Fatal(name, s)
					}
				}
			}
		}
	})
	if len(seen) < 10 {
		t.Error(seen)
	}
}

// without calls visit for all lists that are made of l by leaving out one statement, also inside of others.
func without(l []api.Stmt, visit func([]api.Stmt)) {
	for i, s := range l {
		visit(slices.Concat(l[:i], l[i+1:]))
		put := func(s api.Stmt) {
			m := slices.Clone(l)
			m[i] = s
			visit(m)
		}
		without(s.Body, func(m []api.Stmt) {
			x := s
			x.Body = m
			put(x)
		})
		without(s.Else, func(m []api.Stmt) {
			x := s
			x.Else = m
			put(x)
		})
	}
}

func TestRemoval(t *testing.T) {
	p := parsed(t, richText)
	n := 0
	for i, x := range p.Procs {
		without(x.Body, func(l []api.Stmt) {
			n++
			p.Procs[i].Body = l
			if !types.Valid(p) {
				t.Error(types.Check(p), l)
			}
		})
		p.Procs[i].Body = x.Body
	}
	if n != tree.Size(p) {
		t.Error(n)
	}
}

// TestAnyProgram demands that a program has ErrArg if its tree is not valid, and only then, and that nothing panics.
func TestAnyProgram(t *testing.T) {
	invalid, twice := 0, 0
	changed(t, []string{"", "null", "$a", "int", "A", "v1", "v4", "zz"}, []int{-1, 0, 1, 2, 6, 12, api.MaxInt + 1}, func(p api.Program) {
		l := types.Check(p)
		if types.Valid(p) != (len(l) == 0) || len(l) > 1 {
			t.Fatal(l)
		}
		wrong := len(l) == 1 && l[0].E == api.ErrArg
		if wrong == tree.Program(p) || wrong && l[0] != (types.Fault{E: api.ErrArg}) {
			t.Fatal(l, p)
		}
		if wrong {
			invalid++
		} else if len(l) == 1 && l[0].E == api.ErrTwice {
			twice++
		}
		for _, x := range p.Procs[:1] {
			scope, _ := types.Scope(p, x.Name)
			types.Proc(p, x.Name)
			types.Record(p, x.Name)
			types.Field(p, "A", x.Name)
			types.Of(scope, x.Body[0].E)
			for _, f := range slices.Concat(x.Requires, x.Ensures) {
				if (types.Formula(p, scope, f) == api.ErrArg) == tree.Formula(f) {
					t.Fatal(f)
				}
			}
		}
	})
	if invalid < 2000 || twice < 10 {
		t.Error(invalid, twice)
	}
}

func TestNothing(t *testing.T) {
	var p api.Program
	if l := types.Check(p); len(l) != 0 || !types.Valid(p) {
		t.Error(l)
	}
	if e := types.Formula(p, nil, api.Formula{}); e != api.OK {
		t.Error(e)
	}
	if s, e := types.Of(nil, api.Expr{}); s != types.None || e != api.ErrArg {
		t.Error(s, e)
	}
}
