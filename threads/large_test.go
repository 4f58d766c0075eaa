package threads_test

import (
	"slices"
	"strconv"
	"testing"

	"sepal/api"
	"sepal/machine"
	"sepal/threads"
)

// crowds is a program with procedures that begin very many threads.
const crowds = `record Cell { int n; }
lock L invariant emp;
procedure bomb(Cell c, int n) { par { bomb(c, n); } { bomb(c, n); } }
procedure locked(Cell c, int n) { int i;
	with L { i = c.n; c.n = i + 1; }
}
procedure waiting(Cell c, int n) {
	if (n == 0) { locked(c, n); } else { par { waiting(c, n - 1); } { waiting(c, n - 1); } }
}
procedure reading(Cell c, int n) { int i;
	if (n == 0) { i = c.n; } else { par { reading(c, n - 1); } { reading(c, n - 1); } }
}
procedure writing(Cell c, int n) {
	par { reading(c, n); } { write(c, n); }
}
procedure write(Cell c, int n) { int i;
	while (i < n) { i = i + 1; }
	c.n = 1; # write
}
`

// large returns a start with all the fuel that is permitted.
func large(proc string, n int) machine.Start {
	m := api.Model{Store: store("c=1 n=" + strconv.Itoa(n)), Memory: blocks("1:Cell(0)")}
	return machine.Start{Proc: proc, Model: m, Fuel: api.MaxSteps}
}

// TestManyThreads has runs with very many threads. None of them may take a time that grows with the square of these.
func TestManyThreads(t *testing.T) {
	p := parsed(t, crowds)
	const leaves = 1 << 15
	o, e := threads.Run(p, large("waiting", 15), nil)
	if o.Kind != machine.Ended || o.Steps != 2*(leaves-1)+5*leaves || o.Model.Memory[0].Fields[0] != leaves || e != api.OK {
		t.Error(o, e)
	}
	o, e = threads.Run(p, large("reading", 15), nil)
	if o.Kind != machine.Ended || o.Steps != 2*(leaves-1)+2*leaves || e != api.OK {
		t.Error(o, e)
	}
	// a writer that comes when many readers are there
	var schedule []int
	for i := range threads.MaxSchedule {
		schedule = append(schedule, i*i%7919)
	}
	o, e = threads.Run(p, large("writing", 12), schedule)
	if o.E != api.ErrRace || label(crowds, o.Pos) != "write" || o.Steps < 2000 || e != api.OK {
		t.Error(o, e)
	}
}

// TestManySteps demands that the schedule chooses among very many threads.
func TestManySteps(t *testing.T) {
	p := parsed(t, crowds)
	const steps = 100000
	s := withFuel(large("bomb", 0), steps)
	schedule := make([]int, threads.MaxSchedule)
	for i := range schedule {
		schedule[i] = i // the last thread of i + 1
	}
	var want []int
	for i := range threads.MaxSchedule {
		want = append(want, 2*i)
	}
	for i := 1; i < 2*threads.MaxSchedule; i += 2 {
		want = append(want, i)
	}
	for i := 2 * threads.MaxSchedule; len(want) < steps; i++ {
		want = append(want, i)
	}
	order, e := threads.Order(p, s, schedule)
	if !slices.Equal(order, want) || e != api.OK {
		t.Error(len(order), e)
	}
	widths, e := threads.Widths(p, s, schedule)
	if len(widths) != steps || e != api.OK {
		t.Fatal(len(widths), e)
	}
	for i, width := range widths {
		if width != i+1 {
			t.Fatal(i, width)
		}
	}
}

// TestCrowd compares runs of many threads with those of flat programs.
func TestCrowd(t *testing.T) {
	p := parsed(t, crowds)
	for _, proc := range []string{"bomb", "waiting", "reading", "writing"} {
		s := withFuel(large(proc, 5), 400)
		for seed := range 3 {
			var schedule []int
			for i := range 380 {
				schedule = append(schedule, (i*i*(seed+3)+i)%997)
			}
			if h, want := observed(t, p, s, schedule), expected(p, s, schedule); !same(h, want) {
				t.Errorf("%v instead of %v of %s with %v", h, want, proc, schedule)
			}
		}
	}
}
