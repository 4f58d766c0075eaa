package explore_test

import (
	"fmt"
	"reflect"
	"slices"
	"strings"
	"testing"

	"sepal/api"
	"sepal/explore"
	"sepal/machine"
	"sepal/parse"
)

// items are what the programs of these tests have besides their procedures.
const items = `record Cell { int n; Cell next; }
global Cell c;
lock L invariant emp;
lock M invariant emp;
`

// model gives a block to c. It is that of main, which has no parameters.
func model() api.Model {
	return api.Model{Store: []api.Binding{{Name: "c", Value: 5}}, Memory: []api.Block{{Address: 5, Record: "Cell", Fields: []int{7, 5}}}}
}

// bounds are wide enough for the programs with few runs.
func bounds() explore.Bounds {
	return explore.Bounds{Runs: 1000, Fuel: 100, Depth: 1, Inputs: []int{3, -1}, Choices: []int{2, 0}}
}

func parsed(t *testing.T, text string) api.Program {
	t.Helper()
	p, place, e := parse.Program(text)
	if e != api.OK {
		t.Fatalf("%d at %v of\n%s", e, place, text)
	}
	return p
}

// pair returns a program in which main begins two threads with these bodies.
func pair(one, two string) string {
	return items + "procedure main() {\npar { one(); } { two(); }\n}\n" +
		"procedure one() { int i; Cell x;\n" + one + "\n}\nprocedure two() { int i; Cell x;\n" + two + "\n}"
}

// same reports whether two values of one type are equal, with nil and empty slices being equal.
func same(a, b any) bool {
	return equal(reflect.ValueOf(a), reflect.ValueOf(b))
}

func equal(a, b reflect.Value) bool {
	switch a.Kind() {
	case reflect.Struct:
		for i := range a.NumField() {
			if !equal(a.Field(i), b.Field(i)) {
				return false
			}
		}
		return true
	case reflect.Slice:
		if a.Len() != b.Len() {
			return false
		}
		for i := range a.Len() {
			if !equal(a.Index(i), b.Index(i)) {
				return false
			}
		}
		return true
	}
	return a.Equal(b)
}

func fails(r explore.Run) bool { return r.Outcome.Kind == machine.Failed }

// explored returns what All returns for main and the model of these tests. It demands what is so for every exploration.
func explored(t *testing.T, p api.Program, b explore.Bounds) ([]explore.Run, bool) {
	t.Helper()
	l, complete, e := explore.All(p, "main", model(), b)
	if e != api.OK || len(l) == 0 || len(l) > b.Runs {
		t.Fatalf("%d and %d runs with %v", e, len(l), b)
	}
	seen := map[string]bool{}
	for i, r := range l {
		if o, e := explore.Again(p, r); e != api.OK || !same(o, r.Outcome) {
			t.Fatalf("run %d: %v, and again %v and %d", i, r, o, e)
		}
		if r.Start.Proc != "main" || !same(r.Start.Model, model()) || r.Start.Fuel != b.Fuel {
			t.Fatalf("run %d: %v with %v", i, r, b)
		}
		key := fmt.Sprint(r.Start.Inputs, r.Start.Choices, r.Schedule)
		if seen[key] {
			t.Fatalf("%s is there twice with %v", key, b)
		}
		seen[key] = true
	}
	r, found, e := explore.Failing(p, "main", model(), b)
	first := slices.IndexFunc(l, fails)
	if e != api.OK || found != (first >= 0) || found && !same(r, l[first]) || !found && !same(r, explore.Run{}) {
		t.Fatalf("Failing returns %v, %v, and %d with %v", r, found, e, b)
	}
	return l, complete
}

// text returns a run in short, such as "[3] [] [0 1] failed 19".
func text(r explore.Run) string {
	o := r.Outcome
	kinds := map[int]string{machine.Ended: "ended", machine.Failed: "failed", machine.Limit: "limit", machine.Blocked: "blocked"}
	s := fmt.Sprint(r.Start.Inputs, " ", r.Start.Choices, " ", r.Schedule, " ", kinds[o.Kind])
	if o.E != api.OK {
		s += fmt.Sprint(" ", int(o.E))
	}
	return s
}

func texts(l []explore.Run) []string {
	var s []string
	for _, r := range l {
		s = append(s, text(r))
	}
	return s
}

// check demands that an exploration of a program has these runs.
func check(t *testing.T, program string, b explore.Bounds, complete bool, want ...string) {
	t.Helper()
	l, is := explored(t, parsed(t, program), b)
	if got := texts(l); !slices.Equal(got, want) || is != complete {
		t.Errorf("%v instead of %v, and\n%s\ninstead of\n%s\nwith %v of\n%s", is, complete, strings.Join(got, "\n"), strings.Join(want, "\n"), b, program)
	}
}

// TestExample is the example of the chapter.
func TestExample(t *testing.T) {
	check(t, pair("i = 1;", "i = 2;"), bounds(), true, "[] [] [] ended", "[] [] [0 1] ended")
	before := strings.Replace(pair("i = 1;", "i = 2;"), "{\npar", "{ int r;\nr = 1; r = 2; r = 3;\npar", 1)
	check(t, before, bounds(), true, "[] [] [] ended", "[] [] [0 0 0 0 1] ended")
}
