package types_test

import (
	"reflect"
	"slices"
	"testing"

	"sepal/api"
	"sepal/types"
)

// twins is a program in which names occur several times.
func twins() api.Program {
	x := []api.Param{param("R", "x")}
	return api.Program{
		Records: []api.Record{{Name: "R", Fields: []api.Param{param("int", "a"), param("R", "b"), param("R", "a")}}, {Name: "S"}, {Name: "R", Fields: []api.Param{param("int", "c")}}},
		Globals: []api.Param{param("int", "g"), param("R", "g")},
		Procs: []api.Proc{
			{Name: "p", Pos: api.Pos{Line: 3, Column: 1}, Params: x, Logical: []api.Param{param("int", "l")}, Result: param("int", "r"), Locals: []api.Param{param("T", "x"), param("int", "k")},
				Contract: true, Requires: []api.Formula{{Exists: []api.Param{param("int", "e")}}}, Body: []api.Stmt{{Kind: api.Free, Name: "x"}, {}}},
			{Name: "q", Result: api.Param{Type: "int"}},
			{Name: "p", Params: x},
			{Name: ""},
		},
	}
}

func TestScope(t *testing.T) {
	p := parsed(t, richText)
	for _, c := range []struct {
		p    api.Program
		proc string
		want []api.Param
		err  api.Errno
	}{
		{p, "p1", []api.Param{param("A", "g1"), param("B", "g2"), param("int", "g3"), param("A", "v1"), param("int", "v2"), param("int", "v4"), param("C", "v5"), param("int", "v3"), param("A", "v6"), param("int", "v7")}, api.OK},
		{p, "p2", []api.Param{param("A", "g1"), param("B", "g2"), param("int", "g3"), param("C", "w1"), param("C", "w2"), param("C", "w3")}, api.OK},
		{twins(), "p", []api.Param{param("int", "g"), param("R", "g"), param("R", "x"), param("int", "l"), param("int", "r"), param("T", "x"), param("int", "k")}, api.OK},
		{twins(), "q", []api.Param{param("int", "g"), param("R", "g")}, api.OK},
		{twins(), "", []api.Param{param("int", "g"), param("R", "g")}, api.OK},
		{parsed(t, "procedure p() { }"), "p", nil, api.OK},
		{p, "p3", nil, api.ErrNone}, {p, "", nil, api.ErrNone}, {p, "P1", nil, api.ErrNone}, {api.Program{}, "p", nil, api.ErrNone},
	} {
		if l, err := types.Scope(c.p, c.proc); !slices.Equal(l, c.want) || err != c.err {
			t.Errorf("%q: %v, %d, want %v, %d", c.proc, l, err, c.want, c.err)
		}
	}
}

func TestRecord(t *testing.T) {
	p := twins()
	for _, c := range []struct {
		name string
		want api.Record
		ok   bool
	}{
		{"R", p.Records[0], true}, {"S", p.Records[1], true}, {"T", api.Record{}, false}, {"", api.Record{}, false}, {"p", api.Record{}, false}, {"r", api.Record{}, false},
	} {
		if r, ok := types.Record(p, c.name); !reflect.DeepEqual(r, c.want) || ok != c.ok {
			t.Errorf("%q: %v, %v", c.name, r, ok)
		}
	}
}

func TestProc(t *testing.T) {
	p := twins()
	for _, c := range []struct {
		name string
		want api.Proc
		ok   bool
	}{
		{"p", p.Procs[0], true}, {"q", p.Procs[1], true}, {"", p.Procs[3], true}, {"R", api.Proc{}, false}, {"P", api.Proc{}, false},
	} {
		if x, ok := types.Proc(p, c.name); !reflect.DeepEqual(x, c.want) || ok != c.ok {
			t.Errorf("%q: %v, %v", c.name, x, ok)
		}
	}
	rich := parsed(t, richText)
	for _, want := range rich.Procs {
		if x, ok := types.Proc(rich, want.Name); !reflect.DeepEqual(x, want) || !ok {
			t.Errorf("%v, %v", x, ok)
		}
	}
}

func TestField(t *testing.T) {
	p := twins()
	for _, c := range []struct {
		record, field string
		want          int
		ok            bool
	}{
		{"R", "a", 0, true}, {"R", "b", 1, true}, {"R", "c", 0, false}, {"R", "", 0, false}, {"S", "a", 0, false}, {"T", "a", 0, false}, {"", "a", 0, false}, {"", "", 0, false}, {"R", "R", 0, false},
	} {
		if i, ok := types.Field(p, c.record, c.field); i != c.want || ok != c.ok {
			t.Errorf("%q, %q: %d, %v", c.record, c.field, i, ok)
		}
	}
}

// TestResultsShareNothing overwrites what is returned, and demands that the program stays as it is.
func TestResultsShareNothing(t *testing.T) {
	p := parsed(t, richText)
	for _, x := range p.Procs {
		l, _ := types.Scope(p, x.Name)
		clear(l)
		clear(l[:cap(l)])
		y, _ := types.Proc(p, x.Name)
		overwrite(reflect.ValueOf(&y).Elem())
	}
	for _, x := range p.Records {
		r, _ := types.Record(p, x.Name)
		overwrite(reflect.ValueOf(&r).Elem())
	}
	if !reflect.DeepEqual(p, parsed(t, richText)) {
		t.Error("changed")
	}
	p = api.Program{Globals: []api.Param{param("int", "g"), param("int", "h")}[:1], Procs: []api.Proc{{Name: "p", Locals: []api.Param{param("int", "k")}}}}
	l, _ := types.Scope(p, "p")
	l[0].Name = "changed"
	if p.Globals[0].Name != "g" || p.Globals[:2][1].Name != "h" {
		t.Error(p.Globals[:2])
	}
}

// overwrite changes all strings and numbers in a value, and then clears its lists.
func overwrite(v reflect.Value) {
	switch v.Kind() {
	case reflect.Struct:
		for i := range v.NumField() {
			overwrite(v.Field(i))
		}
	case reflect.Slice:
		for i := range v.Len() {
			overwrite(v.Index(i))
		}
		v.Clear()
	case reflect.Int:
		v.SetInt(-77)
	case reflect.String:
		v.SetString("overwritten")
	}
}
