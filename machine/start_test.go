package machine_test

import (
	"math"
	"slices"
	"strconv"
	"testing"

	"sepal/api"
	"sepal/machine"
)

// damage is a change of a valid start, or of its program, that has an error.
type damage struct {
	what   string
	change func(p *api.Program, s *machine.Start)
	e      api.Errno
}

// full returns a value, many times.
func full(n, value int) []int { return slices.Repeat([]int{value}, n) }

// damages returns changes of what goodStart returns, in the order of the errors. Any two of them can be made one after the other.
func damages() []damage {
	type program = *api.Program
	type start = *machine.Start
	return []damage{
		{"the tree is not valid", func(p program, s start) { p.Globals[0].Name = "" }, api.ErrArg},
		{"the program has a fault", func(p program, s start) { p.Records[0].Fields[0].Type = "None" }, api.ErrArg},
		{"a value is too great", func(p program, s start) { s.Model.Store[1].Value = api.MaxInt + 1 }, api.ErrArg},
		{"a value is too small", func(p program, s start) { s.Model.Store[0].Value = -api.MaxInt - 1 }, api.ErrArg},
		{"names do not ascend", func(p program, s start) { s.Model.Store[1].Name = s.Model.Store[0].Name }, api.ErrArg},
		{"addresses do not ascend", func(p program, s start) { s.Model.Memory[0].Address = 5 }, api.ErrArg},
		{"a field is too great", func(p program, s start) { s.Model.Memory[0].Fields[0] = api.MaxInt + 1 }, api.ErrArg},
		{"no such procedure", func(p program, s start) { s.Proc = "none" }, api.ErrNone},
		{"no name of a procedure", func(p program, s start) { s.Proc = "" }, api.ErrNone},
		{"a name too few", func(p program, s start) { s.Model.Store = s.Model.Store[:len(s.Model.Store)-1] }, api.ErrForm},
		{"a name too many", func(p program, s start) {
			s.Model.Store = append(s.Model.Store, api.Binding{Name: "z" + strconv.Itoa(len(s.Model.Store))})
		}, api.ErrForm},
		{"another name", func(p program, s start) { s.Model.Store[2].Name = "m" }, api.ErrForm},
		{"no such record", func(p program, s start) { s.Model.Memory[1].Record = "None" }, api.ErrForm},
		{"a field too many", func(p program, s start) { s.Model.Memory[1].Fields = append(s.Model.Memory[1].Fields, 0) }, api.ErrForm},
		{"a field too few", func(p program, s start) { s.Model.Memory[2].Fields = s.Model.Memory[2].Fields[:2] }, api.ErrForm},
		{"another record", func(p program, s start) { s.Model.Memory[2].Record = "Node" }, api.ErrForm},
		{"too many inputs", func(p program, s start) { s.Inputs = full(machine.MaxInputs+1, 0) }, api.ErrRange},
		{"an input too great", func(p program, s start) { s.Inputs = append(s.Inputs, api.MaxInt+1) }, api.ErrRange},
		{"an input too small", func(p program, s start) { s.Inputs = append([]int{-api.MaxInt - 1}, s.Inputs...) }, api.ErrRange},
		{"too many choices", func(p program, s start) { s.Choices = full(machine.MaxInputs+1, 0) }, api.ErrRange},
		{"a negative choice", func(p program, s start) { s.Choices = append(s.Choices, -1) }, api.ErrRange},
		{"the least choice", func(p program, s start) { s.Choices = append([]int{math.MinInt}, s.Choices...) }, api.ErrRange},
		{"negative fuel", func(p program, s start) { s.Fuel = -1 }, api.ErrRange},
		{"too much fuel", func(p program, s start) { s.Fuel = api.MaxSteps + 1 }, api.ErrRange},
	}
}

const goodText = `i = input; t = new Node; x.next = t; r = i;`

func goodStart(t *testing.T) (api.Program, machine.Start) {
	s := from(2, -4, "2:Node(5) 5:Node(0) 6:Pair(1,2,3)")
	return parsed(t, program(goodText)), withChoices(withInputs(s, 3, 4), 1, 2)
}

// checkError demands that a start has this error, and that neither Run nor Trace returns anything.
func checkError(t *testing.T, what string, p api.Program, s machine.Start, want api.Errno) {
	t.Helper()
	if e := machine.Valid(p, s); e != want {
		t.Errorf("%s: Valid returns %d instead of %d", what, e, want)
	}
	o, e := machine.Run(p, s)
	if e != want || (want == api.OK) == sameOutcome(o, machine.Outcome{}) {
		t.Errorf("%s: Run returns %v and %d instead of %d", what, o, e, want)
	}
	l, e := machine.Trace(p, s)
	if e != want || want != api.OK && len(l) > 0 {
		t.Errorf("%s: Trace returns %v and %d instead of %d", what, l, e, want)
	}
}

func TestErrors(t *testing.T) {
	p, s := goodStart(t)
	checkError(t, "nothing", p, s, api.OK)
	for _, x := range damages() {
		p, s := goodStart(t)
		x.change(&p, &s)
		checkError(t, x.what, p, s, x.e)
	}
}

// group returns the place of an error in the order of Valid's.
func group(e api.Errno) int {
	return slices.Index([]api.Errno{api.ErrArg, api.ErrNone, api.ErrForm, api.ErrRange}, e)
}

func TestOrderOfErrors(t *testing.T) {
	n := 0
	for _, x := range damages() {
		for _, y := range damages() {
			if group(x.e) >= group(y.e) {
				continue
			}
			n++
			p, s := goodStart(t)
			x.change(&p, &s)
			y.change(&p, &s)
			checkError(t, x.what+", and "+y.what, p, s, x.e)
			p, s = goodStart(t)
			y.change(&p, &s)
			x.change(&p, &s)
			checkError(t, y.what+", and "+x.what, p, s, x.e)
		}
	}
	if n < 150 {
		t.Error(n)
	}
}

// TestBounds has starts that are just valid.
func TestBounds(t *testing.T) {
	for what, change := range map[string]func(s *machine.Start){
		"no fuel":            func(s *machine.Start) { s.Fuel = 0 },
		"the most fuel":      func(s *machine.Start) { s.Fuel = api.MaxSteps },
		"no inputs":          func(s *machine.Start) { s.Inputs = nil },
		"the most inputs":    func(s *machine.Start) { s.Inputs = full(machine.MaxInputs, 0) },
		"the greatest input": func(s *machine.Start) { s.Inputs = full(machine.MaxInputs, api.MaxInt) },
		"the least input":    func(s *machine.Start) { s.Inputs = full(machine.MaxInputs, -api.MaxInt) },
		"no choices":         func(s *machine.Start) { s.Choices = nil },
		"the most choices":   func(s *machine.Start) { s.Choices = full(machine.MaxInputs, math.MaxInt) },
		"no blocks":          func(s *machine.Start) { s.Model.Memory = nil },
		"the greatest value": func(s *machine.Start) { s.Model.Store[3].Value = api.MaxInt },
		"the least value":    func(s *machine.Start) { s.Model.Store[3].Value = -api.MaxInt },
		"the greatest field": func(s *machine.Start) { s.Model.Memory[2].Fields[2] = api.MaxInt },
		"the last address":   func(s *machine.Start) { s.Model.Memory[2].Address = api.MaxAddress },
	} {
		p, s := goodStart(t)
		change(&s)
		checkError(t, what, p, s, api.OK)
	}
	p, s := goodStart(t)
	s.Model.Memory = nil
	for i := range api.MaxBlocks {
		s.Model.Memory = append(s.Model.Memory, api.Block{Address: i + 1, Record: "Node", Fields: []int{0}})
	}
	checkError(t, "the most blocks", p, s, api.OK)
	s.Model.Memory = append(s.Model.Memory, api.Block{Address: api.MaxAddress, Record: "Node", Fields: []int{0}})
	checkError(t, "too many blocks", p, s, api.ErrArg)
}

// TestNames demands that a store has the globals, the parameters, and the logical variables, and no result and no locals, of the procedure of the start.
func TestNames(t *testing.T) {
	p := parsed(t, program("", "global Node h; procedure few() { int i; } procedure q(Pair b, int a) returns (Pair c) { Pair d; }"))
	for _, c := range []struct {
		proc, store string
		e           api.Errno
	}{
		{"few", "g=1 h=0", api.OK},
		{"few", "g=1", api.ErrForm},
		{"few", "h=1", api.ErrForm},
		{"few", "", api.ErrForm},
		{"few", "g=1 h=0 i=0", api.ErrForm},
		{"q", "a=1 b=2 g=3 h=4", api.OK},
		{"q", "a=1 g=3 h=4", api.ErrForm},
		{"q", "b=2 g=3 h=4", api.ErrForm},
		{"q", "a=1 b=2 c=3 g=3 h=4", api.ErrForm},
		{"q", "a=1 b=2 c=3 g=3", api.ErrForm},
		{"q", "a=1 b=2 d=3 g=3 h=4", api.ErrForm},
		{"q", "a=1 b=2 g=3 H=4", api.ErrForm},
		{"main", "g=1 h=0 k=1 n=1 x=1 y=0", api.OK},
		{"main", "g=1 h=0 n=1 x=1 y=0", api.ErrForm},
		{"main", "g=1 h=0 k=1 n=1 r=0 x=1 y=0", api.ErrForm},
		{"main", "a=1 b=2 g=3 h=4", api.ErrForm},
	} {
		s := machine.Start{Proc: c.proc, Model: api.Model{Store: store(c.store)}}
		checkError(t, c.proc+" with "+c.store, p, s, c.e)
	}
}

// TestShown demands that an outcome has the names of the start and that of the result, if there is one.
func TestShown(t *testing.T) {
	items := `procedure few() { int i; i = 4; }
procedure q(int a) returns (Pair b) logical (int z, Node aa) requires emp ensures emp { Pair d; int zz; b = new Pair; zz = 5; }`
	s := machine.Start{Proc: "few", Model: api.Model{Store: store("g=5")}, Fuel: 9}
	checkModel(t, program("", items), s, ended(0, "", "8"), api.Model{Store: store("g=5")})
	s = machine.Start{Proc: "q", Model: api.Model{Store: store("a=-1 aa=3 g=5 z=-2")}, Fuel: 9, Choices: []int{2}}
	checkModel(t, program("", items), s, ended(0, "", "9 9"), api.Model{Store: store("a=-1 aa=3 b=3 g=5 z=-2"), Memory: blocks("3:Pair(0,0,0)")})
}

const storeText = `global int g; global Node f; record Node { Node next; }
procedure p(int b, Node a, int c) returns (int r) logical (int d, Node z) requires emp ensures emp { int i; }
procedure q() { }`

func TestStore(t *testing.T) {
	p := parsed(t, storeText)
	for _, c := range []struct {
		proc    string
		args    []int
		globals string
		want    string
		e       api.Errno
	}{
		{"p", []int{5, 6, 7}, "f=8 g=9", "a=6 b=5 c=7 d=0 f=8 g=9 z=0", api.OK},
		{"p", []int{-api.MaxInt, api.MaxInt, 0}, "f=-1048576 g=1048576", "a=1048576 b=-1048576 c=0 d=0 f=-1048576 g=1048576 z=0", api.OK},
		{"q", nil, "f=8 g=9", "f=8 g=9", api.OK},
		{"q", []int{}, "f=0 g=0", "f=0 g=0", api.OK},
		{"q", nil, "g=9", "", api.ErrForm},
		{"q", nil, "f=8", "", api.ErrForm},
		{"q", nil, "", "", api.ErrForm},
		{"q", nil, "f=8 h=9", "", api.ErrForm},
		{"q", nil, "f=8 g=9 h=9", "", api.ErrForm},
		{"q", []int{1}, "f=8 g=9", "", api.ErrForm},
		{"p", []int{5, 6}, "f=8 g=9", "", api.ErrForm},
		{"p", []int{5, 6, 7, 8}, "f=8 g=9", "", api.ErrForm},
		{"p", nil, "f=8 g=9", "", api.ErrForm},
		{"p", []int{5, 6, 7}, "a=6 b=5 c=7 f=8 g=9", "", api.ErrForm},
		{"none", nil, "f=8 g=9", "", api.ErrNone},
		{"", nil, "f=8 g=9", "", api.ErrNone},
		{"q", nil, "f=8 f=9", "", api.ErrArg},
		{"q", nil, "f=8 g=1048577", "", api.ErrArg},
		{"q", nil, "f=-1048577 g=9", "", api.ErrArg},
		{"p", []int{api.MaxInt + 1, 6, 7}, "f=8 g=9", "", api.ErrRange},
		{"p", []int{5, 6, api.MaxInt + 1}, "f=8 g=9", "", api.ErrRange},
		{"p", []int{5, -api.MaxInt - 1, 7}, "f=8 g=9", "", api.ErrRange},
		// the first of two errors
		{"none", nil, "f=8 g=1048577", "", api.ErrArg},
		{"q", []int{1}, "f=8 f=9", "", api.ErrArg},
		{"p", []int{5, 6, api.MaxInt + 1}, "f=8 g=1048577", "", api.ErrArg},
		{"none", []int{1}, "", "", api.ErrNone},
		{"none", []int{api.MaxInt + 1}, "f=8 g=9", "", api.ErrNone},
		{"p", []int{5, api.MaxInt + 1}, "f=8 g=9", "", api.ErrForm},
		{"p", []int{5, 6, api.MaxInt + 1}, "f=8", "", api.ErrForm},
	} {
		s, e := machine.Store(p, c.proc, c.args, store(c.globals))
		if !slices.Equal(s, store(c.want)) || e != c.e {
			t.Errorf("%v and %d instead of %v", s, e, c)
		}
	}
}

// TestStoreOfProgram demands ErrArg for programs that are not valid, whatever else is wrong.
func TestStoreOfProgram(t *testing.T) {
	for _, change := range []func(p *api.Program){
		func(p *api.Program) { p.Globals[0].Name = "" },
		func(p *api.Program) { p.Globals[0].Type = "None" },
		func(p *api.Program) { p.Procs[1].Name = "p" },
	} {
		for _, proc := range []string{"q", "none"} {
			for _, args := range [][]int{nil, {1}, {api.MaxInt + 1}} {
				for _, globals := range []string{"f=8 g=9", "f=8", "f=8 g=1048577"} {
					p := parsed(t, storeText)
					change(&p)
					if s, e := machine.Store(p, proc, args, store(globals)); len(s) > 0 || e != api.ErrArg {
						t.Error(proc, args, globals, s, e)
					}
				}
			}
		}
	}
}

// TestStoreStarts demands that what Store returns is the store of a valid start.
func TestStoreStarts(t *testing.T) {
	p := parsed(t, storeText)
	for proc, n := range map[string]int{"p": 3, "q": 0} {
		s, e := machine.Store(p, proc, full(n, -3), store("f=8 g=9"))
		if e != api.OK {
			t.Error(proc, e)
		}
		checkError(t, proc, p, machine.Start{Proc: proc, Model: api.Model{Store: s}}, api.OK)
	}
	empty := parsed(t, "procedure q() { }")
	if s, e := machine.Store(empty, "q", nil, nil); len(s) > 0 || e != api.OK {
		t.Error(s, e)
	}
}
