package explore_test

import (
	"math"
	"slices"
	"testing"

	"sepal/api"
	"sepal/explore"
	"sepal/machine"
	"sepal/threads"
)

// small is a program with all that bounds can matter for, in which every run fails.
const small = items + `procedure main() { int i; Cell x;
	i = input;
	x = new Cell;
	par { one(); } { one(); }
	assert i == i + 1;
}
procedure one() { int i; i = 1; }`

// checkError demands that both functions return this error, and nothing else with it.
func checkError(t *testing.T, what string, p api.Program, proc string, m api.Model, b explore.Bounds, want api.Errno) {
	t.Helper()
	l, complete, e := explore.All(p, proc, m, b)
	if e != want || (want == api.OK) != (len(l) > 0) || want != api.OK && (l != nil || complete) {
		t.Errorf("%s: All returns %d runs, %v, and %d instead of %d", what, len(l), complete, e, want)
	}
	r, found, e := explore.Failing(p, proc, m, b)
	if e != want || want != api.OK && (found || !same(r, explore.Run{})) {
		t.Errorf("%s: Failing returns %v, %v, and %d instead of %d", what, r, found, e, want)
	}
}

// wrongBounds are bounds that are not valid for one reason each.
func wrongBounds() map[string]explore.Bounds {
	l := map[string]explore.Bounds{}
	for _, x := range []struct {
		what   string
		change func(b *explore.Bounds)
	}{
		{"no runs", func(b *explore.Bounds) { b.Runs = 0 }},
		{"negative runs", func(b *explore.Bounds) { b.Runs = -1 }},
		{"the least runs", func(b *explore.Bounds) { b.Runs = math.MinInt }},
		{"too many runs", func(b *explore.Bounds) { b.Runs = 100001 }},
		{"far too many runs", func(b *explore.Bounds) { b.Runs = math.MaxInt }},
		{"negative fuel", func(b *explore.Bounds) { b.Fuel = -1 }},
		{"too much fuel", func(b *explore.Bounds) { b.Fuel = threads.MaxSchedule + 1 }},
		{"the fuel of the machine", func(b *explore.Bounds) { b.Fuel = api.MaxSteps }},
		{"negative depth", func(b *explore.Bounds) { b.Depth = -1 }},
		{"too great a depth", func(b *explore.Bounds) { b.Depth = 7 }},
		{"too great a depth, but no values", func(b *explore.Bounds) { b.Depth, b.Inputs, b.Choices = 7, nil, nil }},
		{"too many inputs", func(b *explore.Bounds) { b.Inputs = []int{1, 2, 3, 4, 5, 6, 7} }},
		{"too many inputs, which are equal", func(b *explore.Bounds) { b.Inputs = make([]int, 7) }},
		{"too many choices", func(b *explore.Bounds) { b.Choices = []int{1, 2, 3, 4, 5, 6, 7} }},
		{"too many choices, which are equal", func(b *explore.Bounds) { b.Choices = make([]int, 7) }},
		{"too great an input", func(b *explore.Bounds) { b.Inputs = []int{api.MaxInt + 1} }},
		{"too great an input behind others", func(b *explore.Bounds) { b.Inputs = []int{0, 1, 2, 3, 4, api.MaxInt + 1} }},
		{"too small an input", func(b *explore.Bounds) { b.Inputs = []int{-api.MaxInt - 1} }},
		{"too small an input before others", func(b *explore.Bounds) { b.Inputs = []int{-api.MaxInt - 1, 1, 2} }},
		{"a wrong input of lists without elements", func(b *explore.Bounds) { b.Depth, b.Inputs = 0, []int{math.MaxInt} }},
		{"a negative choice", func(b *explore.Bounds) { b.Choices = []int{-1} }},
		{"a negative choice behind others", func(b *explore.Bounds) { b.Choices = []int{0, 1, 2, 3, 4, math.MinInt} }},
		{"a wrong choice of lists without elements", func(b *explore.Bounds) { b.Depth, b.Choices = 0, []int{-1} }},
	} {
		b := bounds()
		x.change(&b)
		l[x.what] = b
	}
	return l
}

func TestWrongBounds(t *testing.T) {
	p := parsed(t, small)
	none := parsed(t, items+"procedure main() { }") // wrong bounds are wrong even if they do not matter
	for what, b := range wrongBounds() {
		checkError(t, what, p, "main", model(), b, api.ErrRange)
		checkError(t, what, none, "main", model(), b, api.ErrRange)
	}
}

// TestBounds has bounds that are just valid.
func TestBounds(t *testing.T) {
	p := parsed(t, small)
	for _, x := range []struct {
		what   string
		change func(b *explore.Bounds)
		n      int // how many runs there are
	}{
		{"nothing", func(b *explore.Bounds) {}, 8},
		{"one run", func(b *explore.Bounds) { b.Runs = 1 }, 1},
		{"the most runs", func(b *explore.Bounds) { b.Runs = 100000 }, 8},
		{"no fuel", func(b *explore.Bounds) { b.Fuel = 0 }, 4},
		{"the most fuel", func(b *explore.Bounds) { b.Fuel = threads.MaxSchedule }, 8},
		{"no depth", func(b *explore.Bounds) { b.Depth = 0 }, 2},
		{"the greatest depth", func(b *explore.Bounds) { b.Depth = 6; b.Choices = nil }, 128},
		{"no inputs", func(b *explore.Bounds) { b.Inputs = nil }, 4},
		{"no inputs, but room", func(b *explore.Bounds) { b.Inputs = b.Inputs[:0] }, 4},
		{"no choices", func(b *explore.Bounds) { b.Choices = nil }, 4},
		{"no choices, but room", func(b *explore.Bounds) { b.Choices = b.Choices[:0] }, 4},
		{"neither inputs nor choices", func(b *explore.Bounds) { b.Inputs, b.Choices = nil, nil }, 2},
		{"the most inputs", func(b *explore.Bounds) { b.Inputs = []int{1, 2, 3, 4, 5, 6} }, 24},
		{"the most choices", func(b *explore.Bounds) { b.Choices = []int{1, 2, 3, 4, 5, 6} }, 24},
		{"the least and the greatest input", func(b *explore.Bounds) { b.Inputs = []int{-api.MaxInt, 0, api.MaxInt} }, 12},
		{"the least and the greatest choice", func(b *explore.Bounds) { b.Choices = []int{0, api.MaxInt, math.MaxInt} }, 12},
	} {
		b := bounds()
		x.change(&b)
		checkError(t, x.what, p, "main", model(), b, api.OK)
		if l, complete := explored(t, p, b); len(l) != x.n || complete != (x.what != "one run" && x.what != "no fuel") {
			t.Errorf("%s: %d runs, and %v", x.what, len(l), complete)
		}
	}
}

// TestStarts demands that the errors of starts come behind those of bounds.
func TestStarts(t *testing.T) {
	for _, x := range []struct {
		what   string
		change func(p *api.Program, proc *string, m *api.Model)
		e      api.Errno
	}{
		{"nothing", func(*api.Program, *string, *api.Model) {}, api.OK},
		{"the tree is not valid", func(p *api.Program, _ *string, _ *api.Model) { p.Globals[0].Name = "" }, api.ErrArg},
		{"a statement has no kind", func(p *api.Program, _ *string, _ *api.Model) { p.Procs[1].Body[0].Kind = 0 }, api.ErrArg},
		{"the program has a fault", func(p *api.Program, _ *string, _ *api.Model) { p.Procs[0].Body[1].From = "None" }, api.ErrArg},
		{"the store is not valid", func(_ *api.Program, _ *string, m *api.Model) { m.Store = append(m.Store, m.Store[0]) }, api.ErrArg},
		{"a value is too great", func(_ *api.Program, _ *string, m *api.Model) { m.Store[0].Value = api.MaxInt + 1 }, api.ErrArg},
		{"the memory is not valid", func(_ *api.Program, _ *string, m *api.Model) { m.Memory = append(m.Memory, m.Memory[0]) }, api.ErrArg},
		{"an address is 0", func(_ *api.Program, _ *string, m *api.Model) { m.Memory[0].Address = 0 }, api.ErrArg},
		{"no such procedure", func(_ *api.Program, proc *string, _ *api.Model) { *proc = "none" }, api.ErrNone},
		{"no procedure", func(_ *api.Program, proc *string, _ *api.Model) { *proc = "" }, api.ErrNone},
		{"no program", func(p *api.Program, _ *string, _ *api.Model) { *p = api.Program{} }, api.ErrNone},
		{"a name too few", func(_ *api.Program, _ *string, m *api.Model) { m.Store = nil }, api.ErrForm},
		{"a name too many", func(_ *api.Program, _ *string, m *api.Model) { m.Store = append(m.Store, api.Binding{Name: "d"}) }, api.ErrForm},
		{"another name", func(_ *api.Program, _ *string, m *api.Model) { m.Store[0].Name = "d" }, api.ErrForm},
		{"no such record", func(_ *api.Program, _ *string, m *api.Model) { m.Memory[0].Record = "Node" }, api.ErrForm},
		{"a field too few", func(_ *api.Program, _ *string, m *api.Model) { m.Memory[0].Fields = []int{1} }, api.ErrForm},
	} {
		p, proc, m := parsed(t, small), "main", model()
		x.change(&p, &proc, &m)
		if e := machine.Valid(p, machine.Start{Proc: proc, Model: m}); e != x.e {
			t.Errorf("%s: Valid returns %d", x.what, e)
		}
		checkError(t, x.what, p, proc, m, bounds(), x.e)
		for what, b := range wrongBounds() {
			checkError(t, x.what+", and "+what, p, proc, m, b, api.ErrRange)
		}
	}
	// the order of the errors of starts
	p, m := parsed(t, small), model()
	m.Store[0].Name = "d"
	checkError(t, "no procedure, and another name", p, "none", m, bounds(), api.ErrNone)
	p.Procs[1].Body[0].Name = "none"
	checkError(t, "a fault, no procedure, and another name", p, "none", m, bounds(), api.ErrArg)
}

// TestProcedure demands that the runs are those of the procedure, with its parameters and logical variables, and not of another one.
func TestProcedure(t *testing.T) {
	p := parsed(t, items+`procedure main() { assert 0 == 1; }
procedure add(int a) returns (int r) logical (int v) requires emp ensures emp { r = input; r = r + a; }`)
	m := model()
	m.Store = []api.Binding{{Name: "a", Value: 10}, {Name: "c", Value: 5}, {Name: "v", Value: -2}}
	l, complete, e := explore.All(p, "add", m, bounds())
	if len(l) != 2 || !complete || e != api.OK {
		t.Fatal(l, complete, e)
	}
	for i, r := range []int{13, 9} {
		want := []api.Binding{{Name: "a", Value: 10}, {Name: "c", Value: 5}, {Name: "r", Value: r}, {Name: "v", Value: -2}}
		if l[i].Start.Proc != "add" || !slices.Equal(l[i].Outcome.Model.Store, want) {
			t.Error(i, l[i])
		}
	}
	if _, found, e := explore.Failing(p, "add", m, bounds()); found || e != api.OK {
		t.Error(found, e)
	}
	checkError(t, "the store of another procedure", p, "add", model(), bounds(), api.ErrForm)
}
