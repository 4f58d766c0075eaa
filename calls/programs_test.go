package calls_test

import (
	"slices"
	"strings"
	"testing"

	"sepal/api"
	"sepal/calls"
	"sepal/parse"
	"sepal/types"
)

// parsed returns the program of a text; it is valid.
func parsed(t testing.TB, text string) api.Program {
	t.Helper()
	p, place, e := parse.Program(text)
	if e != api.OK {
		t.Fatal(text, place, e)
	}
	return valid(t, p)
}

func valid(t testing.TB, p api.Program) api.Program {
	t.Helper()
	if l := types.Check(p); len(l) > 0 {
		t.Fatal(l)
	}
	return p
}

func invoke(name string) api.Stmt {
	return api.Stmt{Kind: api.Invoke, Calls: []api.Call{{Proc: name}}}
}

// calling returns a valid program whose procedures call one another as a text says: "b: a c; a; c: b" has three of them, in this order.
func calling(t testing.TB, text string) api.Program {
	t.Helper()
	var p api.Program
	for item := range strings.SplitSeq(text, ";") {
		name, callees, _ := strings.Cut(item, ":")
		x := api.Proc{Name: strings.TrimSpace(name)}
		for _, callee := range strings.Fields(callees) {
			x.Body = append(x.Body, invoke(callee))
		}
		p.Procs = append(p.Procs, x)
	}
	return valid(t, p)
}

// checkNames demands these names in this order.
func checkNames(t testing.TB, what string, l []string, want string) {
	t.Helper()
	if !slices.Equal(l, strings.Fields(want)) {
		t.Errorf("%s: %q, want %s", what, l, want)
	}
}

// listed writes components as "a b | c".
func listed(l [][]string) string {
	var parts []string
	for _, c := range l {
		parts = append(parts, strings.Join(c, " "))
	}
	return strings.Join(parts, " | ")
}

// always is a condition that holds.
func always() api.Cond {
	zero := api.Expr{Kind: api.Num}
	return api.Cond{Kind: api.Eq, A: zero, B: zero}
}

// nests are the ways in which a list of statements can stand in another one.
func nests() []func(l []api.Stmt) []api.Stmt {
	c := always()
	return []func(l []api.Stmt) []api.Stmt{
		func(l []api.Stmt) []api.Stmt { return []api.Stmt{{Kind: api.If, C: c, Body: l}} },
		func(l []api.Stmt) []api.Stmt { return []api.Stmt{{Kind: api.If, C: c, Else: l}} },
		func(l []api.Stmt) []api.Stmt { return []api.Stmt{{Kind: api.While, C: c, Body: l}} },
		func(l []api.Stmt) []api.Stmt { return []api.Stmt{{Kind: api.With, Name: "L", Body: l}} },
	}
}

// answers are what all functions answer when they are asked about these names, one by one and together.
type answers struct {
	callees, callers, reach, affected [][]string
	recursive                         []bool
	components                        [][]string
}

func answersOf(p api.Program, names []string) answers {
	a := answers{components: calls.Components(p)}
	for _, name := range names {
		a.callees = append(a.callees, calls.Callees(p, name))
		a.callers = append(a.callers, calls.Callers(p, name))
		a.recursive = append(a.recursive, calls.Recursive(p, name))
		a.reach = append(a.reach, calls.Reach(p, []string{name}))
		a.affected = append(a.affected, calls.Affected(p, []string{name}))
	}
	a.reach = append(a.reach, calls.Reach(p, names))
	a.affected = append(a.affected, calls.Affected(p, names))
	return a
}

// lists returns all lists of names in the answers.
func (a answers) lists() [][]string {
	return slices.Concat(a.callees, a.callers, a.reach, a.affected, a.components)
}

// nothing reports whether there is no name in the answers, and nothing recursive.
func (a answers) nothing() bool {
	some := func(l []string) bool { return len(l) > 0 }
	return len(a.components) == 0 && !slices.ContainsFunc(a.lists(), some) && !slices.Contains(a.recursive, true)
}
