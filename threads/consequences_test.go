package threads_test

import (
	"reflect"
	"slices"
	"testing"

	"sepal/api"
	"sepal/machine"
	"sepal/threads"
)

// TestEmptySchedule demands that a run with an empty schedule is that of the machine, unless it ends by a race.
func TestEmptySchedule(t *testing.T) {
	races, others := 0, 0
	prepare := func(w *writer) { w.bare, w.accesses = w.Intn(2) == 0, w.Intn(4) }
	randomRuns(t, 300, 1, prepare, func(x run) {
		o, e := machine.Run(x.p, x.s)
		l, _ := machine.Trace(x.p, x.s)
		for _, schedule := range [][]int{nil, make([]int, len(x.schedule))} {
			h := observed(t, x.p, x.s, schedule)
			if h.o.E == api.ErrRace {
				races++
				if !slices.Equal(h.places, l[:min(len(l), len(h.places))]) || o.Steps < h.o.Steps {
					t.Errorf("%v and %v, from %v of\n%s", h, o, x.s, x.text)
				}
				continue
			}
			others++
			if !sameOutcome(h.o, o) || !slices.Equal(h.places, l) || e != api.OK {
				t.Errorf("%v instead of %v, from %v of\n%s", h, o, x.s, x.text)
			}
		}
	})
	if races < 10 || others < 200 {
		t.Error(races, others)
	}
}

// TestModulo demands that entries that are equal modulo the width of their step, and those behind the last step, make no difference.
func TestModulo(t *testing.T) {
	randomRuns(t, 70, 2, anything, func(x run) {
		h := observed(t, x.p, x.s, x.schedule)
		least, greater := make([]int, len(h.widths)), make([]int, len(h.widths))
		for i, width := range h.widths {
			if i < len(x.schedule) {
				least[i] = x.schedule[i] % width
			}
			greater[i] = least[i] + width*(1+i*i%7)
		}
		for _, schedule := range [][]int{least, greater, append(slices.Clone(least), 5, 1, 2), append(slices.Clone(greater), 1)} {
			if other := observed(t, x.p, x.s, schedule); !same(h, other) {
				t.Errorf("%v with %v instead of %v with %v, from %v of\n%s", other, schedule, h, x.schedule, x.s, x.text)
			}
		}
		// the entries tell who does the steps
		for i, n := range h.order {
			if h.widths[i] == 1 {
				continue
			}
			changed := slices.Clone(least[:i+1])
			changed[i] = (changed[i] + 1) % h.widths[i]
			order, _ := threads.Order(x.p, x.s, changed)
			if len(order) > i && order[i] == n || !slices.Equal(order[:min(i, len(order))], h.order[:i]) {
				t.Errorf("%v with %v and %v with %v, from %v of\n%s", h.order, least, order, changed, x.s, x.text)
			}
		}
	})
}

// TestNoPar demands that a program without Par does the same with every schedule.
func TestNoPar(t *testing.T) {
	steps := 0
	randomRuns(t, 150, 2, func(w *writer) { w.noPar = true }, func(x run) {
		h := observed(t, x.p, x.s, nil)
		if other := observed(t, x.p, x.s, x.schedule); !same(h, other) || h.switches != 0 || h.o.E == api.ErrRace {
			t.Errorf("%v instead of %v, from %v with %v of\n%s", other, h, x.s, x.schedule, x.text)
		}
		for i, width := range h.widths {
			if width != 1 || i < len(h.order) && h.order[i] != 0 {
				t.Error(h, x.text)
			}
		}
		steps += len(h.order)
	})
	if steps < 2000 {
		t.Error(steps)
	}
}

// TestLessFuel demands that a run with a part of the fuel does the first steps.
func TestLessFuel(t *testing.T) {
	randomRuns(t, 45, 1, anything, func(x run) {
		all := observed(t, x.p, x.s, x.schedule)
		steps := len(all.order)
		for fuel := range min(x.s.Fuel, steps+2) {
			h := observed(t, x.p, withFuel(x.s, fuel), x.schedule)
			n := min(fuel, steps)
			if !slices.Equal(h.order, all.order[:n]) || !slices.Equal(h.places, all.places[:n]) || fuel < steps && !slices.Equal(h.widths, all.widths[:n]) {
				t.Errorf("%v with the fuel %d instead of %v, from %v with %v of\n%s", h, fuel, all, x.s, x.schedule, x.text)
			}
			byFuel := h.o.Kind == machine.Limit && h.o.E == api.ErrFull && h.o.Pos == (api.Pos{}) && h.o.Steps == fuel
			if fuel < steps && !byFuel || fuel > steps && !same(h, all) {
				t.Errorf("%v with the fuel %d instead of %v, from %v with %v of\n%s", h, fuel, all, x.s, x.schedule, x.text)
			}
		}
	})
}

// TestOneLock demands that there is no race if all threads access shared blocks only inside of With the same lock.
func TestOneLock(t *testing.T) {
	wide := 0
	randomRuns(t, 200, 4, func(w *writer) { w.guarded, w.accesses = true, 3 }, func(x run) {
		h := observed(t, x.p, x.s, x.schedule)
		if h.o.E == api.ErrRace {
			t.Errorf("%v, from %v with %v of\n%s", h, x.s, x.schedule, x.text)
		}
		if slices.ContainsFunc(h.widths, func(n int) bool { return n > 2 }) {
			wide++
		}
	})
	if wide < 100 {
		t.Error(wide)
	}
}

// schedules calls visit for the runs with all schedules, and returns how many there are.
func schedules(t *testing.T, p api.Program, s machine.Start, visit func(schedule []int, h history)) int {
	t.Helper()
	n := 0
	for schedule := []int{}; ; n++ {
		h := observed(t, p, s, schedule)
		visit(schedule, h)
		schedule = append(slices.Clone(schedule), make([]int, len(h.widths))...)[:len(h.widths)]
		i := len(schedule) - 1
		for i >= 0 && schedule[i]+1 == h.widths[i] {
			i--
		}
		if i < 0 {
			return n + 1
		}
		schedule = schedule[:i+1]
		schedule[i]++
	}
}

// TestAllSchedules goes through all schedules of small programs: the results are those of all orders of their steps.
func TestAllSchedules(t *testing.T) {
	for _, x := range []struct {
		one, two string
		n        int // how many schedules there are
		kinds    []end
		values   []int // of c.n at the ends that are no failures
	}{
		{"i = 1;", "i = 2;", 6, []end{ended}, []int{7}},
		{"with L { x.n = 1; }", "with L { x.n = 2; }", 8, []end{ended}, []int{1, 2}},
		{"with L { i = x.n;\nx.n = i + 1; }", "with L { i = x.n;\nx.n = 2 * i; }", 10, []end{ended}, []int{15, 16}},
		{"with L { with M { } }", "with M { with L { } }", 14, []end{ended, blocked}, []int{7}},
		{"x.n = 1;", "y.n = 2;", 6, []end{ended}, []int{1}},
		{"x.n = 1;", "i = x.n;", 4, []end{ended, race("one")}, []int{1}},
		{"x.n = 1;", "free x;", 4, []end{ended, race("one"), {machine.Failed, api.ErrDead, "one"}}, nil},
	} {
		text := pair(x.one, x.two)
		p := parsed(t, text)
		kinds, values := map[end]bool{}, map[int]bool{}
		n := schedules(t, p, start(), func(schedule []int, h history) {
			want := expected(p, start(), schedule)
			if !same(h, want) {
				t.Errorf("%v instead of %v with %v of\n%s", h, want, schedule, text)
			}
			kinds[end{h.o.Kind, h.o.E, label(text, h.o.Pos)}] = true
			if h.o.Kind == machine.Ended {
				values[h.o.Model.Memory[0].Fields[0]] = true
			}
		})
		wantKinds, wantValues := map[end]bool{}, map[int]bool{}
		for _, k := range x.kinds {
			wantKinds[k] = true
		}
		for _, v := range x.values {
			wantValues[v] = true
		}
		if !reflect.DeepEqual(kinds, wantKinds) || x.values != nil && !reflect.DeepEqual(values, wantValues) || n != x.n {
			t.Errorf("%v, %v, and %d schedules of %v", kinds, values, n, x)
		}
	}
}
