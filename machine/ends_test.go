package machine_test

import (
	"slices"
	"strings"
	"testing"

	"sepal/api"
	"sepal/machine"
)

// TestFuel demands that a run with just enough fuel ends as it does with more, and one with less by the fuel.
func TestFuel(t *testing.T) {
	for _, x := range []example{
		{"", from(0, 0, list), ended(0, list, "")},
		{"r = 1;", from(0, 0, list), ended(1, list, "1")},
		{"r = 1;\nr = r + 1;\nr = r + 1;", from(0, 0, ""), ended(3, "", "1 2 3")},
		{"while (r < n) {\nr = r + 1; }", from(0, 2, ""), ended(2, "", "1 2 1 2 1")},
		{"with L { }", from(0, 0, ""), ended(0, "", "1")},
		{"r = take(1);", from(0, 0, ""), ended(12, "", "1 ta1 ta2 ta3 ta4")},
		{"par { r = one(1); } { none(); }", from(0, 0, ""), ended(10, "", "1 one")},
		{"with L {\nwith L { } }", from(0, 0, list), blocked(0, list, "1")},
		{"r = 2;\nhold();", from(0, 0, ""), blocked(2, "", "1 2 ho1")},
		{"r = 2;\nr = 3;\n@t = t.next;", from(0, 0, list), failed(api.ErrNull, 3, list, "1 2")},
		{"r = n;\n@r = r + 1;", from(0, api.MaxInt, ""), limited(api.ErrBig, api.MaxInt, "", "1")},
	} {
		text := program(x.body, lockItems)
		steps := len(strings.Fields(x.end.trace))
		needed := steps
		if x.end.kind == machine.Failed || x.end.kind == machine.Limit {
			needed++ // a step that fails is only tried if there is fuel for it
		}
		for _, fuel := range []int{needed, needed + 1, api.MaxSteps} {
			checkRun(t, text, withFuel(x.s, fuel), x.end)
		}
		for fuel := range needed {
			checkLess(t, text, withFuel(x.s, fuel))
		}
	}
}

// checkLess demands that a run ends by its fuel, and has done as many steps.
func checkLess(t *testing.T, text string, s machine.Start) {
	t.Helper()
	text, _ = marked(text)
	p := parsed(t, text)
	o, e := machine.Run(p, s)
	if o.Kind != machine.Limit || o.E != api.ErrFull || o.Pos != (api.Pos{}) || o.Steps != s.Fuel || e != api.OK {
		t.Errorf("%v and %d with the fuel %d of\n%s", o, e, s.Fuel, text)
	}
	if l, e := machine.Trace(p, s); len(l) != s.Fuel || e != api.OK {
		t.Errorf("%v and %d with the fuel %d of\n%s", l, e, s.Fuel, text)
	}
}

// TestStoreAtTheEnd demands that the store is that of the first frame, whatever is being executed.
func TestStoreAtTheEnd(t *testing.T) {
	body := "r = 1;\nt = x;\nr = deep(2, t);\nt = null;"
	items := `procedure deep(int n, Node x) returns (int r) { Node t;
	r = 50 + n; # d1
	if (0 < n) { # d2
		r = deep(n - 1, x); # d3
	} else {
		free x; # d4
		x.next = null; # d5
	}
}`
	trace := "1 2 3 d1 d2 d3 d1 d2 d3 d1 d2 d4"
	for fuel := 1; fuel <= 12; fuel++ {
		memory := list
		if fuel == 12 {
			memory = "5:Node(0)"
		}
		done := strings.Join(strings.Fields(trace)[:fuel], " ")
		checkRun(t, program(body, items), withFuel(from(2, 0, list), fuel), limited(api.ErrFull, 1, memory, done))
	}
	checkRun(t, program(body, strings.Replace(items, "x.next", "@x.next", 1)), from(2, 0, list), failed(api.ErrDead, 1, "5:Node(0)", trace))
}

// TestPlaces demands that places are those of the statements, columns included.
func TestPlaces(t *testing.T) {
	p := parsed(t, "procedure main() { int i;  while (i < 2)  { i = i + 1; }\n\tmain(); }")
	s := machine.Start{Proc: "main", Fuel: 7}
	place := func(line, column int) api.Pos { return api.Pos{Line: line, Column: column} }
	loop, body, call := place(1, 28), place(1, 45), place(2, 2)
	want := []api.Pos{loop, body, loop, body, loop, call, loop}
	if l, e := machine.Trace(p, s); !slices.Equal(l, want) || e != api.OK {
		t.Error(l, e)
	}
	// places are what the program says, even if it has none, or all are the same
	for _, x := range []api.Pos{{}, place(7, 9)} {
		p.Procs[0].Body[0].Pos, p.Procs[0].Body[0].Body[0].Pos = x, x
		want = []api.Pos{x, x, x, x, x, call, x}
		if l, e := machine.Trace(p, s); !slices.Equal(l, want) || e != api.OK {
			t.Error(l, e)
		}
	}
}
