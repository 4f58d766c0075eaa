package explore_test

import (
	"slices"
	"testing"

	"sepal/api"
	"sepal/explore"
	"sepal/machine"
)

// checkFailing demands that Failing finds this run; none if it is empty.
func checkFailing(t *testing.T, program string, b explore.Bounds, want string) {
	t.Helper()
	p := parsed(t, program)
	r, found, e := explore.Failing(p, "main", model(), b)
	if e != api.OK || found != (want != "") || found && text(r) != want || !found && !same(r, explore.Run{}) {
		t.Errorf("%v, %v, and %d instead of %q with %v of\n%s", r, found, e, want, b, program)
	}
	if found && (!same(r.Start.Model, model()) || r.Start.Proc != "main" || r.Start.Fuel != b.Fuel) {
		t.Error(r)
	}
	explored(t, p, b) // demands that Failing and All agree
}

func TestFailing(t *testing.T) {
	b := bounds()
	// runs that end, are blocked, or stop do not fail
	for _, body := range []string{"", "i = 1;", "with L { with L { } }", "while (0 == 0) { }", "i = 1048576; i = i + i;", "i = input; x = new Cell;"} {
		checkFailing(t, straight(body), b, "")
	}
	checkFailing(t, pair("with L { with M { } }", "with M { with L { } }"), b, "")
	// the first run fails
	checkFailing(t, straight("i = x.n;"), b, "[] [] [] failed 15")
	checkFailing(t, straight("i = input; assert i == 4;"), b, "[3] [] [] failed 18")
	checkFailing(t, pair("c.n = 1;", "c.n = 2;"), b, "[] [] [] failed 19")
	// only a later one fails
	checkFailing(t, straight("i = input; assert i == 3;"), b, "[-1] [] [] failed 18")
	checkFailing(t, straight("x = new Cell; free x; y = new Cell; assert x == y;"), explore.Bounds{Runs: 10, Fuel: 10, Depth: 1, Choices: []int{4, 2, 4, 7}}, "[] [2] [] failed 18")
	checkFailing(t, pair("with L { i = c.n; } assert i == 7;", "with L { c.n = 1; }"), b, "[] [] [0 1] failed 18")
	checkFailing(t, pair("i = c.n;", "i = 1; i = 2; c.n = i;"), b, "[] [] [0 1 1] failed 19")
	// and so do runs behind it
	checkFailing(t, straight("i = input; assert i == 1;"), explore.Bounds{Runs: 10, Fuel: 10, Depth: 1, Inputs: []int{1, 1, 5, 4, 1}}, "[5] [] [] failed 18")
}

// TestFailingBehindRuns demands that only the first runs count.
func TestFailingBehindRuns(t *testing.T) {
	program := straight("i = input; assert i != 4;")
	for runs := 1; runs <= 6; runs++ {
		want := ""
		if runs >= 4 {
			want = "[4] [] [] failed 18"
		}
		checkFailing(t, program, explore.Bounds{Runs: runs, Fuel: 10, Depth: 1, Inputs: []int{1, 2, 3, 4, 5}}, want)
	}
	program = pair("i = c.n;", "i = 1; i = 2; c.n = i;")
	l, _ := explored(t, parsed(t, program), bounds())
	first := slices.IndexFunc(l, fails)
	for runs := 1; runs <= len(l)+1; runs++ {
		b, want := bounds(), ""
		b.Runs = runs
		if runs > first {
			want = "[] [] [0 1 1] failed 19"
		}
		checkFailing(t, program, b, want)
	}
}

// TestFailingWithLittleFuel demands that a run that does not get as far as its failure does not fail.
func TestFailingWithLittleFuel(t *testing.T) {
	for fuel := range 5 {
		want := ""
		if fuel > 2 {
			want = "[] [] [] failed 15"
		}
		b := bounds()
		b.Fuel = fuel
		checkFailing(t, straight("i = 1; i = 2; i = x.n;"), b, want)
	}
}

// TestFailingEnds demands that Failing does not go through the runs behind the one that it finds.
func TestFailingEnds(t *testing.T) {
	p := parsed(t, straight("i = input; x = new Cell; if (i == 1) { x = null; } else { while (0 == 0) { } } i = x.n;"))
	b := explore.Bounds{Runs: 100000, Fuel: 10000, Depth: 6, Inputs: []int{1, 2, 3, 4, 5, 6}, Choices: []int{1, 2, 3, 4, 5, 6}}
	r, found, e := explore.Failing(p, "main", model(), b)
	if !found || e != api.OK || text(r) != "[1 1 1 1 1 1] [1 1 1 1 1 1] [] failed 15" || r.Outcome.Kind != machine.Failed {
		t.Error(text(r), found, e)
	}
}
