package clone_test

import (
	"reflect"
	"testing"

	"sepal/api"
	"sepal/clone"
)

// fill gives every field a value of its own, and every list two elements up to a depth.
func fill(v reflect.Value, depth int, n *int) {
	*n++
	switch v.Kind() {
	case reflect.Struct:
		for i := range v.NumField() {
			fill(v.Field(i), depth, n)
		}
	case reflect.Slice:
		if depth > 0 {
			v.Set(reflect.MakeSlice(v.Type(), 2, 2))
		}
		for i := range v.Len() {
			fill(v.Index(i), depth-1, n)
		}
	case reflect.Int:
		v.SetInt(int64(*n))
	case reflect.String:
		v.SetString(string(rune(0x10000 + *n)))
	case reflect.Bool:
		v.SetBool(true)
	}
}

func filled[T any](depth int) T {
	var x T
	n := 0
	fill(reflect.ValueOf(&x).Elem(), depth, &n)
	return x
}

// overwrite changes everything in a value.
func overwrite(v reflect.Value) {
	switch v.Kind() {
	case reflect.Struct:
		for i := range v.NumField() {
			overwrite(v.Field(i))
		}
	case reflect.Slice:
		for i := range v.Len() {
			overwrite(v.Index(i))
		}
		v.Clear()
	case reflect.Int:
		v.SetInt(-77)
	case reflect.String:
		v.SetString("overwritten")
	}
}

// check demands that a copy is equal to its original, and that nothing in the original changes with the copy.
func check[T any](t *testing.T, depth int, copyOf func(T) T) {
	t.Helper()
	x, want := filled[T](depth), filled[T](depth)
	y := copyOf(x)
	if !reflect.DeepEqual(y, want) {
		t.Errorf("%v is not a copy of %v", y, want)
	}
	overwrite(reflect.ValueOf(&y).Elem())
	if !reflect.DeepEqual(x, want) || reflect.DeepEqual(y, want) {
		t.Errorf("%v has changed, or %v has not", x, y)
	}
}

func TestCopies(t *testing.T) {
	for depth := 1; depth <= 4; depth++ {
		check(t, depth, clone.Expr)
		check(t, depth, clone.Atom)
		check(t, depth, clone.Atoms)
		check(t, depth, clone.Cond)
		check(t, depth, clone.Stmts)
		check(t, depth, clone.Record)
		check(t, depth, clone.Proc)
		check(t, depth, clone.Model)
		check(t, depth, func(s api.Stmt) api.Stmt { return clone.StmtWithin(s, depth) })
	}
}

func TestEmptyLists(t *testing.T) {
	if clone.Atoms(nil) != nil || clone.Stmts(nil) != nil || clone.Record(api.Record{}).Fields != nil || !reflect.DeepEqual(clone.Proc(api.Proc{}), api.Proc{}) || !reflect.DeepEqual(clone.Model(api.Model{}), api.Model{}) {
		t.Error("nil")
	}
	none := api.Proc{Params: []api.Param{}, Requires: []api.Formula{}, Body: []api.Stmt{{Calls: []api.Call{}, Else: []api.Stmt{}}}}
	if !reflect.DeepEqual(clone.Proc(none), none) {
		t.Error(none)
	}
}

// TestLevels demands that a statement shares the lists in it that are deeper than the levels that are copied, and no others.
func TestLevels(t *testing.T) {
	const depth = 6
	for levels := range depth + 2 {
		var s api.Stmt
		for range depth {
			s = api.Stmt{Body: []api.Stmt{s}, Else: []api.Stmt{s}}
		}
		c := clone.StmtWithin(s, levels)
		for level := range depth {
			shared := level >= levels
			if (&s.Body[0] == &c.Body[0]) != shared || (&s.Else[0] == &c.Else[0]) != shared {
				t.Errorf("level %d of %d", level, levels)
			}
			s, c = s.Body[0], c.Body[0]
		}
	}
}
