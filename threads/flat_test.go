package threads_test

import (
	"slices"

	"sepal/api"
	"sepal/machine"
	"sepal/memory"
	"sepal/types"
	"sepal/value"
)

// op is an instruction: a step that does a statement, or, without one, a release of a lock (if it is not empty) and a jump. A test that fails jumps, too.
type op struct {
	*api.Stmt
	lock string
	to   int
}

// flatten returns a list of statements as instructions, the first of which has the index at.
func flatten(l []api.Stmt, at int) []op {
	var code []op
	next := func() int { return at + len(code) }
	for i := range l {
		x := &l[i]
		first, begin := len(code), next()
		code = append(code, op{Stmt: x})
		code = append(code, flatten(x.Body, next())...)
		switch x.Kind {
		case api.If:
			jump := len(code)
			code = append(code, op{})
			code[first].to = next()
			code = append(code, flatten(x.Else, next())...)
			code[jump].to = next()
		case api.While:
			code = append(code, op{to: begin})
			code[first].to = next()
		case api.With:
			code = append(code, op{lock: x.Name, to: next() + 1})
		}
	}
	return code
}

// call is a call that is being executed; its result goes to a variable of the caller.
type call struct {
	api.Proc
	code  []op
	at    int
	store []api.Binding
	to    string
}

type task struct {
	calls []*call
	two   []*task // what it waits for
	ended bool
}

func (t *task) top() *call { return t.calls[len(t.calls)-1] }

func (c *call) op() op { return c.code[c.at] }

func (c *call) receive(from *call) {
	if from.to != "" {
		n, _ := value.Get(from.store, from.Result.Name)
		c.store = value.Set(c.store, from.to, n)
	}
}

// flat runs a program in another way than threads does: procedures are lists of instructions with jumps, and all threads are looked at before each step.
type flat struct {
	p               api.Program
	globals         []api.Binding
	tasks           []*task
	held            map[string]bool
	memory          []api.Block
	inputs, choices []int
}

func (f *flat) call(name string, args []int, to string) *call {
	x, _ := types.Proc(f.p, name)
	c := &call{Proc: x, code: flatten(x.Body, 0), store: f.globals, to: to}
	for _, v := range slices.Concat(x.Params, x.Logical, []api.Param{x.Result}, x.Locals) {
		if v.Name != "" {
			c.store = value.Set(c.store, v.Name, 0)
		}
	}
	for i, n := range args {
		c.store = value.Set(c.store, x.Params[i].Name, n)
	}
	return c
}

func (f *flat) begin(c *call) *task {
	t := &task{calls: []*call{c}}
	f.tasks = append(f.tasks, t)
	return t
}

// goOn does something that is no step, and reports whether there was anything to do.
func (f *flat) goOn() bool {
	for _, t := range f.tasks {
		c := t.top()
		switch {
		case t.ended || slices.ContainsFunc(t.two, func(x *task) bool { return !x.ended }):
			continue
		case len(t.two) > 0:
			c.receive(t.two[0].top())
			c.receive(t.two[1].top())
			t.two = nil
		case c.at < len(c.code) && c.op().Stmt != nil:
			continue
		case c.at < len(c.code):
			delete(f.held, c.op().lock)
			c.at = c.op().to
		case len(t.calls) > 1:
			t.calls = t.calls[:len(t.calls)-1]
			t.top().receive(c)
		default:
			t.ended = true
		}
		return true
	}
	return false
}

func (f *flat) canStep(t *task) bool {
	return !t.ended && len(t.two) == 0 && !(t.top().op().Kind == api.With && f.held[t.top().op().Name])
}

// raceOf reports whether there is a race of two threads that can step.
func raceOf(t, u *task) bool {
	access := func(t *task) (address int, writes bool) {
		switch c := t.top(); c.op().Kind {
		case api.Load:
			address, _ = value.Get(c.store, c.op().From)
		case api.Save, api.Free:
			address, _ = value.Get(c.store, c.op().Name)
			writes = true
		}
		return address, writes
	}
	a, v := access(t)
	b, w := access(u)
	return t != u && a == b && a != 0 && (v || w)
}

// field returns the record of a variable, the index of one of its fields, and the value of the variable.
func (f *flat) field(c *call, variable, name string) (string, int, int) {
	scope, _ := types.Scope(f.p, c.Name)
	i := slices.IndexFunc(scope, func(v api.Param) bool { return v.Name == variable })
	index, _ := types.Field(f.p, scope[i].Type, name)
	n, _ := value.Get(c.store, variable)
	return scope[i].Type, index, n
}

func pop(l *[]int) int {
	n := 0
	if len(*l) > 0 {
		n, *l = (*l)[0], (*l)[1:]
	}
	return n
}

// step does the next statement of a thread.
func (f *flat) step(t *task) api.Errno {
	c := t.top()
	x := c.op()
	var n int
	var e api.Errno
	m := f.memory
	switch x.Kind {
	case api.Assign:
		n, e = value.Expr(c.store, x.E)
	case api.Load:
		record, i, a := f.field(c, x.From, x.Field)
		n, e = memory.Read(m, a, record, i)
	case api.Save:
		record, i, a := f.field(c, x.Name, x.Field)
		if n, e = value.Expr(c.store, x.E); e == api.OK {
			m, e = memory.Write(m, a, record, i, n)
		}
	case api.New:
		r, _ := types.Record(f.p, x.From)
		m, n, e = memory.New(m, pop(&f.choices), r.Name, len(r.Fields))
	case api.Free:
		_, _, a := f.field(c, x.Name, "")
		m, e = memory.Free(m, a)
	case api.Input:
		n = pop(&f.inputs)
	default:
		return f.control(t, c, x)
	}
	if e != api.OK {
		return e
	}
	f.memory = m
	if x.Kind != api.Save && x.Kind != api.Free {
		c.store = value.Set(c.store, x.Name, n)
	}
	c.at++
	return api.OK
}

// control does a statement that assigns nothing itself.
func (f *flat) control(t *task, c *call, x op) api.Errno {
	holds := true
	if x.Kind == api.If || x.Kind == api.While || x.Kind == api.Assert {
		var e api.Errno
		if holds, e = value.Cond(c.store, x.C); e != api.OK {
			return e
		}
	}
	var callees []*call
	for _, y := range x.Calls {
		var args []int
		for _, a := range y.Args {
			n, e := value.Expr(c.store, a)
			if e != api.OK {
				return e
			}
			args = append(args, n)
		}
		callees = append(callees, f.call(y.Proc, args, y.Result))
	}
	switch {
	case x.Kind == api.Assert && !holds:
		return api.ErrAssert
	case x.Kind == api.With:
		f.held[x.Name] = true
	case x.Kind == api.Invoke:
		t.calls = append(t.calls, callees[0])
	case x.Kind == api.Par:
		t.two = []*task{f.begin(callees[0]), f.begin(callees[1])}
	}
	if holds {
		c.at++
	} else {
		c.at = x.to
	}
	return api.OK
}

// able returns the numbers of the threads that can step, and the least of them that belongs to a race, or -1.
func (f *flat) able() ([]int, int) {
	var l []int
	for i, t := range f.tasks {
		if f.canStep(t) {
			l = append(l, i)
		}
	}
	for _, i := range l {
		for _, k := range l {
			if raceOf(f.tasks[i], f.tasks[k]) {
				return l, i
			}
		}
	}
	return l, -1
}

// expected returns what is to be told of a run.
func expected(p api.Program, s machine.Start, schedule []int) history {
	f := &flat{p: p, held: map[string]bool{}, memory: s.Model.Memory, inputs: s.Inputs, choices: s.Choices}
	for _, b := range s.Model.Store {
		if slices.ContainsFunc(p.Globals, func(v api.Param) bool { return v.Name == b.Name }) {
			f.globals = append(f.globals, b)
		}
	}
	first := f.call(s.Proc, nil, "")
	for _, b := range s.Model.Store {
		first.store = value.Set(first.store, b.Name, b.Value)
	}
	f.begin(first)
	h := f.run(s.Fuel, schedule)
	h.o.Steps = len(h.order)
	h.o.Model = api.Model{Store: s.Model.Store, Memory: f.memory}
	if name := first.Result.Name; name != "" {
		n, _ := value.Get(first.store, name)
		h.o.Model.Store = value.Set(s.Model.Store, name, n)
	}
	for i := 1; i < len(h.order); i++ {
		if h.order[i-1] != h.order[i] {
			h.switches++
		}
	}
	return h
}

func (f *flat) run(fuel int, schedule []int) (h history) {
	for {
		for f.goOn() {
		}
		l, racing := f.able()
		switch {
		case f.tasks[0].ended:
			h.o.Kind = machine.Ended
			return h
		case len(l) == 0:
			h.o.Kind, h.o.E = machine.Blocked, api.ErrState
			return h
		case racing >= 0:
			h.o.Kind, h.o.E, h.o.Pos = machine.Failed, api.ErrRace, f.tasks[racing].top().op().Pos
			return h
		case len(h.order) == fuel:
			h.o.Kind, h.o.E = machine.Limit, api.ErrFull
			return h
		}
		h.widths = append(h.widths, len(l))
		n := l[pop(&schedule)%len(l)]
		place := f.tasks[n].top().op().Pos
		if e := f.step(f.tasks[n]); e != api.OK {
			h.o.Kind, h.o.E, h.o.Pos = machine.Failed, e, place
			if e == api.ErrBig || e == api.ErrFull {
				h.o.Kind = machine.Limit
			}
			return h
		}
		h.order = append(h.order, n)
		h.places = append(h.places, place)
	}
}
