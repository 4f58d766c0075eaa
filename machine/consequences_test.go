package machine_test

import (
	"reflect"
	"slices"
	"testing"

	"sepal/api"
	"sepal/machine"
	"sepal/memory"
	"sepal/value"
)

// checkSame demands that two starts have equal outcomes and traces.
func checkSame(t *testing.T, text string, p api.Program, s, other machine.Start) {
	t.Helper()
	a, e := machine.Run(p, s)
	b, f := machine.Run(p, other)
	if !sameOutcome(a, b) || e != api.OK || f != api.OK {
		t.Errorf("%v and %v, from %v and %v of\n%s", a, b, s, other, text)
	}
	l, _ := machine.Trace(p, s)
	m, _ := machine.Trace(p, other)
	if !slices.Equal(l, m) {
		t.Errorf("%v and %v, from %v and %v of\n%s", l, m, s, other, text)
	}
}

func TestEqualStarts(t *testing.T) {
	randomRuns(t, 100, 3, func(text string, p api.Program, s machine.Start) {
		checkSame(t, text, p, s, s)
		other := s
		other.Model = copied(s.Model)
		other.Inputs, other.Choices = slices.Clone(s.Inputs), slices.Clone(s.Choices)
		checkSame(t, text, parsed(t, text), s, other)
	})
}

// TestLessFuel demands that the steps with less fuel are the first ones of those with more.
func TestLessFuel(t *testing.T) {
	randomRuns(t, 60, 2, func(text string, p api.Program, s machine.Start) {
		all, _ := machine.Trace(p, s)
		end, _ := machine.Run(p, s)
		for fuel := range s.Fuel {
			l, e := machine.Trace(p, withFuel(s, fuel))
			if !slices.Equal(l, all[:min(fuel, len(all))]) || e != api.OK {
				t.Fatalf("%v and %d instead of %v, from %v of\n%s", l, e, all, s, text)
			}
			o, _ := machine.Run(p, withFuel(s, fuel))
			byFuel := o.Kind == machine.Limit && o.E == api.ErrFull && o.Pos == (api.Pos{}) && o.Steps == fuel
			if fuel < len(all) && !byFuel || fuel > len(all) && !sameOutcome(o, end) {
				t.Fatalf("%v with the fuel %d instead of %v, from %v of\n%s", o, fuel, end, s, text)
			}
		}
	})
}

// TestNeverChanged demands that globals, parameters, and logical variables keep their values, and that blocks that are not reached stay as they are.
func TestNeverChanged(t *testing.T) {
	unreached := 0
	randomRuns(t, 300, 3, func(text string, p api.Program, s machine.Start) {
		o, _ := machine.Run(p, s)
		var roots []int
		for _, b := range s.Model.Store {
			if v, ok := value.Get(o.Model.Store, b.Name); v != b.Value || !ok {
				t.Errorf("%v, from %v of\n%s", o, s, text)
			}
			roots = append(roots, b.Value)
		}
		if len(o.Model.Store) != len(s.Model.Store)+1 {
			t.Error(o)
		}
		reached := memory.Reach(s.Model.Memory, roots)
		for _, b := range s.Model.Memory {
			if slices.Contains(reached, b.Address) {
				continue
			}
			unreached++
			if x, ok := memory.Get(o.Model.Memory, b.Address); !ok || !reflect.DeepEqual(x, b) {
				t.Errorf("%v, from %v of\n%s", o, s, text)
			}
		}
	})
	if unreached < 300 {
		t.Error(unreached)
	}
}

// TestUnused demands that inputs and choices behind those that are used do not matter, and that those that are missing are 0.
func TestUnused(t *testing.T) {
	fewer := 0
	randomRuns(t, 200, 3, func(text string, p api.Program, s machine.Start) {
		_, _, read, taken := expected(p, s)
		inputs, choices := s.Inputs[:min(read, len(s.Inputs))], s.Choices[:min(taken, len(s.Choices))]
		if len(inputs) < len(s.Inputs) {
			fewer++
		}
		used := withChoices(withInputs(s, inputs...), choices...)
		checkSame(t, text, p, s, used)
		padded := func(l []int, n int) []int { return append(slices.Clone(l), full(n-len(l), 0)...) }
		more := withChoices(withInputs(s, append(padded(inputs, read), -8, 9)...), append(padded(choices, taken), 2, 3)...)
		checkSame(t, text, p, s, more)
		modulo := slices.Clone(s.Choices)
		for i := range modulo {
			modulo[i] += 4 * i
		}
		checkSame(t, text, p, s, withChoices(s, modulo...))
	})
	if fewer < 100 {
		t.Error(fewer)
	}
}

func copied(m api.Model) api.Model {
	m.Store = slices.Clone(m.Store)
	m.Memory = slices.Clone(m.Memory)
	for i, b := range m.Memory {
		m.Memory[i].Fields = slices.Clone(b.Fields)
	}
	return m
}

// overwrite changes everything in a model, also behind the ends of its slices.
func overwrite(m api.Model) {
	for _, b := range m.Memory {
		fields := b.Fields[:cap(b.Fields)]
		for i := range fields {
			fields[i] = -77
		}
	}
	l := m.Memory[:cap(m.Memory)]
	for i := range l {
		l[i] = api.Block{Address: -77, Record: "overwritten"}
	}
	s := m.Store[:cap(m.Store)]
	for i := range s {
		s[i] = api.Binding{Name: "overwritten", Value: -77}
	}
}

// roomy returns a copy of a start whose slices have room behind their ends.
func roomy(s machine.Start) machine.Start {
	s.Model = copied(s.Model)
	s.Model.Store = append(s.Model.Store, api.Binding{Name: "behind"})[:len(s.Model.Store)]
	s.Model.Memory = append(s.Model.Memory, api.Block{Address: 88})[:len(s.Model.Memory)]
	s.Inputs = append(slices.Clone(s.Inputs), 88)[:len(s.Inputs)]
	s.Choices = append(slices.Clone(s.Choices), 88)[:len(s.Choices)]
	return s
}

// whole returns a start whose slices reach to the ends of their memory.
func whole(s machine.Start) machine.Start {
	s.Model.Store = s.Model.Store[:cap(s.Model.Store)]
	s.Model.Memory = s.Model.Memory[:cap(s.Model.Memory)]
	s.Inputs = s.Inputs[:cap(s.Inputs)]
	s.Choices = s.Choices[:cap(s.Choices)]
	return s
}

// TestNothingModified demands that no argument is modified, and that no result shares memory with an argument, or with another result.
func TestNothingModified(t *testing.T) {
	randomRuns(t, 100, 3, func(text string, p api.Program, s machine.Start) {
		s = roomy(s)
		before := whole(s)
		before.Model = copied(before.Model)
		before.Inputs, before.Choices = slices.Clone(before.Inputs), slices.Clone(before.Choices)
		first, _ := machine.Run(p, s)
		second, _ := machine.Run(p, s)
		trace, _ := machine.Trace(p, s)
		again, _ := machine.Trace(p, s)
		machine.Valid(p, s)
		kept := copied(second.Model)
		overwrite(first.Model)
		clear(trace[:cap(trace)])
		if !sameModel(second.Model, kept) {
			t.Fatal("results share memory", text)
		}
		if l, _ := machine.Trace(p, s); !slices.Equal(l, again) {
			t.Fatal("traces share memory", text)
		}
		if !reflect.DeepEqual(whole(s), before) || !reflect.DeepEqual(p, parsed(t, text)) {
			t.Fatalf("modified: %v, before %v\n%s", s, before, text)
		}
		overwrite(s.Model)
		if !sameModel(second.Model, kept) {
			t.Fatal("a result shares memory with a start", text)
		}
	})
}

func TestStoreModifiesNothing(t *testing.T) {
	p := parsed(t, storeText)
	args, globals := []int{1, 2, 3}, append(store("f=8 g=9"), store("h=10")...)
	first, _ := machine.Store(p, "p", args, globals[:2])
	second, _ := machine.Store(p, "p", args, globals[:2])
	overwrite(api.Model{Store: first})
	if !slices.Equal(second, store("a=2 b=1 c=3 d=0 f=8 g=9 z=0")) || !slices.Equal(args, []int{1, 2, 3}) || !slices.Equal(globals, store("f=8 g=9 h=10")) || !reflect.DeepEqual(p, parsed(t, storeText)) {
		t.Error(second, args, globals)
	}
	first, _ = machine.Store(p, "q", nil, globals[:2])
	overwrite(api.Model{Store: first})
	if !slices.Equal(globals, store("f=8 g=9 h=10")) {
		t.Error(globals)
	}
}
