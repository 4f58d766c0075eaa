package explore_test

import (
	"slices"
	"testing"

	"sepal/api"
	"sepal/explore"
	"sepal/machine"
)

// TestNoPar demands that a program without Par has the empty schedule alone.
func TestNoPar(t *testing.T) {
	for body, end := range map[string]string{
		"":                             "ended",
		"i = 1;":                       "ended",
		"one(); with L { i = 2; }":     "ended",
		"with L { with L { } }":        "blocked 6",
		"x = x.next;":                  "failed 15",
		"x = c; free c; i = x.n;":      "failed 16",
		"assert i == 1;":               "failed 18",
		"i = 1048576; i = i + 1;":      "limit 10",
		"while (i == 0) { one(); }":    "limit 5",
		"if (i == 0) { i = 1; one();}": "ended",
	} {
		program := items + "procedure main() { int i; Cell x;\n" + body + "\n}\nprocedure one() { int i; i = 1; }"
		check(t, program, bounds(), end != "limit 5", "[] [] [] "+end)
	}
	// the threads of a procedure that is not called do not matter
	check(t, items+"procedure main() { int i; i = 1; }\nprocedure two() { par { main(); } { main(); } }", bounds(), true, "[] [] [] ended")
}

func TestTwoThreads(t *testing.T) {
	check(t, pair("i = 1;", ""), bounds(), true, "[] [] [] ended")
	check(t, pair("", ""), bounds(), true, "[] [] [] ended")
	check(t, pair("i = 1; i = 2;", "i = 3;"), bounds(), true,
		"[] [] [] ended", "[] [] [0 0 1] ended", "[] [] [0 1] ended")
	check(t, pair("i = 1; i = 2;", "i = 3; i = 4;"), bounds(), true,
		"[] [] [] ended", "[] [] [0 0 1] ended", "[] [] [0 0 1 1] ended",
		"[] [] [0 1] ended", "[] [] [0 1 0 1] ended", "[] [] [0 1 1] ended")
	// a thread that waits for a lock cannot be chosen
	check(t, pair("with L { i = 1; }", "with L { i = 2; }"), bounds(), true, "[] [] [] ended", "[] [] [0 1] ended")
	check(t, pair("with L { }", "i = 2;"), bounds(), true, "[] [] [] ended", "[] [] [0 1] ended")
	check(t, pair("with L { i = 1; }", "with L { }  i = 2;"), bounds(), true,
		"[] [] [] ended", "[] [] [0 1] ended", "[] [] [0 1 0 1] ended", "[] [] [0 1 1] ended")
}

// TestThreeThreads has more than two threads that can step.
func TestThreeThreads(t *testing.T) {
	three := items + `procedure main() {
	par { two(); } { one(); }
}
procedure two() {
	par { one(); } { one(); }
}
procedure one() { int i; i = 1; }`
	check(t, three, bounds(), true,
		"[] [] [] ended", "[] [] [0 0 0 1] ended",
		"[] [] [0 0 1] ended", "[] [] [0 0 1 1] ended",
		"[] [] [0 0 2] ended", "[] [] [0 0 2 1] ended",
		"[] [] [0 1] ended", "[] [] [0 1 0 1] ended")
	four := items + `procedure main() { int i;
	i = 1;
	par { two(); } { two(); }
}
procedure two() {
	par { none(); } { none(); }
	par { one(); } { one(); }
}
procedure none() { }
procedure one() { int i; i = 1; }`
	p := parsed(t, four)
	l, complete := explored(t, p, bounds())
	// both threads do two steps one after the other, and then two in any order
	if want, _ := expected(p, bounds()); !slices.Equal(texts(l), texts(want)) || !complete || len(l) != 70*2*2 {
		t.Error(len(l), len(want), complete)
	}
}

// TestRaces has runs that end by a race, with which some or all schedules end.
func TestRaces(t *testing.T) {
	check(t, pair("c.n = 1;", "c.n = 2;"), bounds(), true, "[] [] [] failed 19")
	check(t, pair("free c;", "i = c.n;"), bounds(), true, "[] [] [] failed 19")
	check(t, pair("i = c.n;", "i = c.n;"), bounds(), true, "[] [] [] ended", "[] [] [0 1] ended")
	check(t, pair("i = 1; c.n = 1;", "i = 2; c.n = 2;"), bounds(), true,
		"[] [] [] ended", "[] [] [0 0 1] failed 19", "[] [] [0 1] failed 19", "[] [] [0 1 1] ended")
	check(t, pair("c.n = 1;", "i = 2; i = c.n;"), bounds(), true, "[] [] [] ended", "[] [] [0 1] failed 19")
	check(t, pair("with L { c.n = 1; }", "with M { c.n = 2; }"), bounds(), true,
		"[] [] [] ended", "[] [] [0 0 1] failed 19", "[] [] [0 1] failed 19", "[] [] [0 1 1] ended")
}

// TestErrors has runs that end by a step that fails or stops. Another thread may do that step.
func TestErrors(t *testing.T) {
	check(t, pair("assert i == 1;", "i = x.n;"), bounds(), true, "[] [] [] failed 18", "[] [] [0 1] failed 15")
	check(t, pair("assert i == 1;", "i = 1;"), bounds(), true, "[] [] [] failed 18", "[] [] [0 1] failed 18")
	check(t, pair("i = 1; assert i == 2;", "i = 1;"), bounds(), true,
		"[] [] [] failed 18", "[] [] [0 0 1] failed 18", "[] [] [0 1] failed 18")
	check(t, pair("i = 1048576 + 1;", "i = 1;"), bounds(), true, "[] [] [] limit 10", "[] [] [0 1] limit 10")
	check(t, pair("with L { free c; }", "with L { x = c; i = x.n; }"), bounds(), true, "[] [] [] failed 16", "[] [] [0 1] ended")
	// the step that fails is the only one that can be done
	check(t, pair("", "free x;"), bounds(), true, "[] [] [] failed 15")
}

func TestBlocked(t *testing.T) {
	check(t, pair("with L { with M { } }", "with M { with L { } }"), bounds(), true,
		"[] [] [] ended", "[] [] [0 0 1] blocked 6", "[] [] [0 1] blocked 6", "[] [] [0 1 1] ended")
	check(t, pair("with L { with L { } }", "i = 1;"), bounds(), true, "[] [] [] blocked 6", "[] [] [0 1] blocked 6")
}

// TestFuel has runs that end because of the fuel.
func TestFuel(t *testing.T) {
	program := pair("i = 1; i = 2;", "i = 3; i = 4;")
	b := bounds()
	b.Fuel = 0
	check(t, program, b, false, "[] [] [] limit 5")
	b.Fuel = 1
	check(t, program, b, false, "[] [] [] limit 5")
	b.Fuel = 2
	check(t, program, b, false, "[] [] [] limit 5", "[] [] [0 1] limit 5")
	b.Fuel = 3
	check(t, program, b, false, "[] [] [] limit 5", "[] [] [0 0 1] limit 5", "[] [] [0 1] limit 5", "[] [] [0 1 1] limit 5")
	b.Fuel = 4 // the last step can be done by one thread only
	check(t, program, b, false,
		"[] [] [] limit 5", "[] [] [0 0 1] limit 5", "[] [] [0 0 1 1] limit 5",
		"[] [] [0 1] limit 5", "[] [] [0 1 0 1] limit 5", "[] [] [0 1 1] limit 5")
	b.Fuel = 5
	check(t, program, b, true,
		"[] [] [] ended", "[] [] [0 0 1] ended", "[] [] [0 0 1 1] ended",
		"[] [] [0 1] ended", "[] [] [0 1 0 1] ended", "[] [] [0 1 1] ended")
	// one loop runs out of the fuel with many schedules
	b.Fuel = 4
	check(t, pair("while (0 == 0) { }", "i = 3;"), b, false,
		"[] [] [] limit 5", "[] [] [0 0 0 1] limit 5", "[] [] [0 0 1] limit 5", "[] [] [0 1] limit 5")
}

// TestLastStep has runs of the most fuel, in which only the last step can be done by another thread.
func TestLastStep(t *testing.T) {
	program := items + `procedure main() { int i;
	while (i < 4998) { i = i + 1; }
	par { one(); } { one(); }
}
procedure one() { int i; i = 1; }`
	p := parsed(t, program)
	b := explore.Bounds{Runs: 4, Fuel: 10000}
	l, complete, e := explore.All(p, "main", model(), b)
	want := append(make([]int, 9998), 1)
	if len(l) != 2 || !complete || e != api.OK || len(l[0].Schedule) != 0 || !slices.Equal(l[1].Schedule, want) || l[1].Outcome.Steps != 10000 {
		t.Error(len(l), complete, e)
	}
	p = parsed(t, pair("while (0 == 0) { }", "while (0 == 0) { }"))
	l, complete, e = explore.All(p, "main", model(), b)
	if len(l) != 4 || complete || e != api.OK {
		t.Fatal(len(l), complete, e)
	}
	for i, ends := range [][]int{{0, 0}, {0, 1}, {1, 0}, {1, 1}} {
		want := append(make([]int, 9998), ends...)
		got := append(slices.Clone(l[i].Schedule), make([]int, 10000-len(l[i].Schedule))...)
		if !slices.Equal(got, want) || l[i].Outcome.Kind != machine.Limit || l[i].Outcome.Steps != 10000 {
			t.Error(i, len(l[i].Schedule), l[i].Outcome)
		}
		if o, e := explore.Again(p, l[i]); !same(o, l[i].Outcome) || e != api.OK {
			t.Error(i, o, e)
		}
	}
}
