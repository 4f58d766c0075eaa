package machine_test

import (
	"testing"

	"sepal/api"
	"sepal/machine"
)

// TestLargeRuns has runs with very many steps, frames, and threads. None of them may take a time that grows with the square of these.
func TestLargeRuns(t *testing.T) {
	p := parsed(t, `lock L invariant emp;
procedure none() { }
procedure step() { int i; i = 1; }
procedure loop(int n) returns (int r) { while (0 == 0) { r = n; } }
procedure endless(int n) returns (int r) { r = endless(n); }
procedure deep(int n) returns (int r) { if (n == 0) { } else { r = deep(n - 1); r = r + 1; } }
procedure bomb(int n) returns (int r) { par { r = bomb(n); } { bomb(n); } }
procedure chain(int n) returns (int r) { if (n == 0) { } else { par { none(); } { r = chain(n - 1); } r = r + 1; } }
procedure hold(int n) returns (int r) { with L { par { step(); } { step(); } r = 1; } }
procedure crowd(int n) returns (int r) { int s;
	if (n == 0) { r = hold(0); } else { par { r = crowd(n - 1); } { s = crowd(n - 1); } r = r + s; }
}
`)
	const leaves = 1 << 14
	for _, c := range []struct {
		proc              string
		n, kind, steps, r int
	}{
		{"loop", 3, machine.Limit, api.MaxSteps, 3},
		{"endless", 3, machine.Limit, 1 << 18, 0},
		{"deep", 100000, machine.Ended, 300001, 100000},
		{"bomb", 3, machine.Limit, 1 << 18, 0},
		{"chain", 100000, machine.Ended, 300001, 100000},
		{"crowd", 14, machine.Ended, 7*leaves + 3*(leaves-1), leaves},
	} {
		s := machine.Start{Proc: c.proc, Model: api.Model{Store: []api.Binding{{Name: "n", Value: c.n}}}, Fuel: api.MaxSteps}
		want := machine.Outcome{Kind: c.kind, Steps: c.steps}
		if c.kind == machine.Limit {
			s.Fuel, want.E = c.steps, api.ErrFull
		}
		want.Model.Store = []api.Binding{{Name: "n", Value: c.n}, {Name: "r", Value: c.r}}
		if o, e := machine.Run(p, s); !sameOutcome(o, want) || e != api.OK {
			t.Error(c, o, e)
		}
	}
}
