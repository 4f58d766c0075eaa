package calls_test

import (
	"slices"
	"strings"
	"testing"

	"sepal/api"
	"sepal/calls"
)

// examples calls visit with random programs, and with some that have as many procedures as there can be.
func examples(t *testing.T, visit func(p api.Program, names []string)) {
	t.Helper()
	randomly(t, 300, func(p api.Program, m *maker) { visit(p, m.names) })
	for _, calleesOf := range []func(i int) []int{
		func(i int) []int { return []int{i / 2, (i*i + 1) % api.MaxList} },
		func(i int) []int { return []int{i - i%7, max(i-1, i-i%7)} },
		func(i int) []int { return []int{i - i%5, min(i+i%5, api.MaxList-1), i / 3} },
	} {
		visit(many(t, calleesOf), []string{nameOf(0), nameOf(50), nameOf(98)})
	}
}

// places returns the index of the component of each procedure, and demands that there is only one.
func places(t *testing.T, p api.Program) map[string]int {
	t.Helper()
	at := map[string]int{}
	for i, c := range calls.Components(p) {
		if len(c) == 0 || !slices.IsSorted(c) {
			t.Error(c)
		}
		for _, name := range c {
			if _, twice := at[name]; twice {
				t.Error(name, "twice")
			}
			at[name] = i
		}
	}
	return at
}

func TestComponentsOfExamples(t *testing.T) {
	examples(t, func(p api.Program, _ []string) {
		at := places(t, p)
		if len(at) != len(p.Procs) {
			t.Error(len(at), len(p.Procs))
		}
		for _, x := range p.Procs {
			place, there := at[x.Name]
			if !there {
				t.Error(x.Name, "is missing")
			}
			for _, callee := range calls.Callees(p, x.Name) {
				if at[callee] > place {
					t.Error(x.Name, "stands before", callee)
				}
			}
		}
		for _, c := range calls.Components(p) {
			for _, name := range c {
				if len(c) > 1 && !calls.Recursive(p, name) {
					t.Error(name, "is not recursive")
				}
			}
		}
	})
}

// within reports whether all names of one list are in another one.
func within(l, other []string) bool {
	return !slices.ContainsFunc(l, func(name string) bool { return !slices.Contains(other, name) })
}

func TestSpreadOfExamples(t *testing.T) {
	examples(t, func(p api.Program, names []string) {
		for _, spread := range []func(p api.Program, l []string) []string{calls.Reach, calls.Affected} {
			var smaller []string
			for i := range len(names) + 1 {
				l := spread(p, names[:i])
				if !within(names[:i], l) || !within(smaller, l) {
					t.Error(names[:i], smaller, l)
				}
				if again := spread(p, l); !slices.Equal(again, l) {
					t.Error(l, again)
				}
				smaller = l
			}
		}
	})
}

// TestOpposites demands that a procedure is affected by another one exactly if it reaches it.
func TestOpposites(t *testing.T) {
	randomly(t, 200, func(p api.Program, m *maker) {
		reach, affected := map[edge]bool{}, map[edge]bool{}
		for _, name := range m.names {
			for _, other := range calls.Reach(p, []string{name}) {
				reach[edge{name, other}] = true
			}
			for _, other := range calls.Affected(p, []string{name}) {
				affected[edge{other, name}] = true
			}
		}
		for _, a := range m.names {
			for _, b := range m.names {
				if reach[edge{a, b}] != affected[edge{a, b}] {
					t.Error(a, b)
				}
			}
		}
	})
}

// TestExample is that of the chapter.
func TestExample(t *testing.T) {
	p := parsed(t, `procedure main() { even(1); par { odd(2); } { even(3); } }
procedure even(int n) { if (n != 0) { odd(n - 1); } }
procedure odd(int n) { if (n != 0) { even(n - 1); } }`)
	if l := listed(calls.Components(p)); l != "even odd | main" {
		t.Error(l)
	}
	checkNames(t, "a change of odd", calls.Affected(p, []string{"odd"}), "even main odd")
	checkNames(t, "a change of main", calls.Affected(p, []string{"main"}), "main")
	checkNames(t, "even", calls.Reach(p, []string{"even"}), strings.Join(calls.Components(p)[0], " "))
}
