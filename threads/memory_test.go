package threads_test

import (
	"reflect"
	"slices"
	"testing"

	"sepal/api"
	"sepal/machine"
	"sepal/threads"
)

func copied(m api.Model) api.Model {
	m.Store = slices.Clone(m.Store)
	m.Memory = slices.Clone(m.Memory)
	for i, b := range m.Memory {
		m.Memory[i].Fields = slices.Clone(b.Fields)
	}
	return m
}

// overwrite changes everything in a model, also behind the ends of its slices.
func overwrite(m api.Model) {
	for _, b := range m.Memory {
		for i := range b.Fields[:cap(b.Fields)] {
			b.Fields[:cap(b.Fields)][i] = -77
		}
	}
	for i := range m.Memory[:cap(m.Memory)] {
		m.Memory[:cap(m.Memory)][i] = api.Block{Address: -77, Record: "overwritten"}
	}
	for i := range m.Store[:cap(m.Store)] {
		m.Store[:cap(m.Store)][i] = api.Binding{Name: "overwritten", Value: -77}
	}
}

// roomy returns a copy of a list that has room behind its end.
func roomy[T any](l []T, behind T) []T {
	return append(slices.Clone(l), behind)[:len(l)]
}

// whole returns lists up to the ends of their memory.
func whole(x run) (machine.Start, []int) {
	s := x.s
	s.Model.Store = s.Model.Store[:cap(s.Model.Store)]
	s.Model.Memory = s.Model.Memory[:cap(s.Model.Memory)]
	s.Inputs, s.Choices = s.Inputs[:cap(s.Inputs)], s.Choices[:cap(s.Choices)]
	return s, x.schedule[:cap(x.schedule)]
}

// TestNothingModified demands that no argument is modified, and that no result shares memory with an argument, or with another result.
func TestNothingModified(t *testing.T) {
	randomRuns(t, 60, 2, anything, func(x run) {
		x.s.Model = copied(x.s.Model)
		x.s.Model.Store = roomy(x.s.Model.Store, api.Binding{Name: "behind"})
		x.s.Model.Memory = roomy(x.s.Model.Memory, api.Block{Address: 88})
		x.s.Inputs, x.s.Choices, x.schedule = roomy(x.s.Inputs, 88), roomy(x.s.Choices, 88), roomy(x.schedule, -88)
		before, schedule := whole(x)
		before.Model = copied(before.Model)
		before.Inputs, before.Choices, schedule = slices.Clone(before.Inputs), slices.Clone(before.Choices), slices.Clone(schedule)

		h := observed(t, x.p, x.s, x.schedule)
		kept := h
		kept.o.Model = copied(h.o.Model)
		kept.order, kept.widths, kept.places = slices.Clone(h.order), slices.Clone(h.widths), slices.Clone(h.places)
		other := observed(t, x.p, x.s, x.schedule)
		overwrite(other.o.Model)
		clear(other.order[:cap(other.order)])
		clear(other.widths[:cap(other.widths)])
		clear(other.places[:cap(other.places)])
		if !same(h, kept) || !same(observed(t, x.p, x.s, x.schedule), kept) {
			t.Fatal("results share memory", x.text)
		}
		if s, l := whole(x); !reflect.DeepEqual(s, before) || !slices.Equal(l, schedule) || !reflect.DeepEqual(x.p, parsed(t, x.text)) {
			t.Fatalf("modified: %v and %v, before %v and %v\n%s", s, l, before, schedule, x.text)
		}
		overwrite(x.s.Model)
		clear(x.schedule)
		if !same(h, kept) {
			t.Fatal("a result shares memory with an argument", x.text)
		}
	})
}

// TestPlaces demands that places are what the program says, even if it has none, or all are the same.
func TestPlaces(t *testing.T) {
	p := parsed(t, pair("x.n = 1;", "x.n = 2;"))
	for _, place := range []api.Pos{{}, {Line: 70, Column: 9}} {
		for i := range p.Procs {
			for k := range p.Procs[i].Body {
				p.Procs[i].Body[k].Pos = place
			}
		}
		o, e := threads.Run(p, start(), meet)
		l, _ := threads.Trace(p, start(), meet)
		if o.E != api.ErrRace || o.Pos != place || !slices.Equal(l, []api.Pos{place, place, place}) || e != api.OK {
			t.Error(o, l, e)
		}
	}
}
