package machine

import (
	"container/heap"

	"sepal/api"
	"sepal/memory"
	"sepal/types"
)

// state is a state of a run.
type state struct {
	program         api.Program
	globals         []api.Binding
	procs           map[string]*procedure // those that were called so far
	main            *thread
	threads         int               // how many threads have begun
	ready           queue             // the threads that have a next statement, but for those in waiting
	waiting         map[string]*queue // the threads that wait, by the lock
	held            map[string]bool   // the locks that are held
	memory          []api.Block
	inputs, choices []int // those that were not used
}

// begin returns the state at the beginning of the run from a valid start.
func begin(p api.Program, x Start) *state {
	s := &state{
		program: p,
		globals: bindings(p.Globals, x.Model.Store),
		procs:   map[string]*procedure{},
		threads: 1,
		waiting: map[string]*queue{},
		held:    map[string]bool{},
		inputs:  x.Inputs,
		choices: x.Choices,
	}
	for _, lock := range p.Locks {
		s.waiting[lock.Name] = &queue{}
	}
	s.memory, _ = memory.Join(x.Model.Memory, nil) // a copy
	f := s.frame(x.Proc)
	for _, b := range x.Model.Store {
		f.set(b.Name, b.Value)
	}
	s.main = &thread{frames: []frame{f}}
	s.settle(s.main)
	return s
}

// procedure returns the procedure with a name.
func (s *state) procedure(name string) *procedure {
	if x, ok := s.procs[name]; ok {
		return x
	}
	proc, _ := types.Proc(s.program, name)
	scope, _ := types.Scope(s.program, name)
	x := &procedure{Proc: proc, kinds: map[string]string{}, shown: given(s.program, proc), store: bindings(scope, s.globals)}
	for _, v := range scope {
		x.kinds[v.Name] = v.Type
	}
	if proc.Result.Name != "" {
		x.shown = append(x.shown, proc.Result)
	}
	s.procs[name] = x
	return x
}

// frame returns a frame at the beginning of a procedure, in which all variables but the globals are 0.
func (s *state) frame(proc string) frame {
	x := s.procedure(proc)
	return frame{of: x, store: x.store, todo: []part{{rest: x.Body}}}
}

// settle does all that these threads can do without a step, and what this lets their parents do.
func (s *state) settle(l ...*thread) {
	for _, t := range l {
		for t != nil && !s.hasNext(t.top()) {
			t = t.leave()
		}
		if t != nil {
			heap.Push(&s.ready, t)
		}
	}
}

// hasNext reports whether a frame has a next statement, and does the releases that stand before that.
func (s *state) hasNext(f *frame) bool {
	for n := len(f.todo) - 1; n >= 0; n-- {
		x := f.todo[n]
		if len(x.rest) > 0 {
			return true
		}
		f.todo = f.todo[:n]
		if x.Stmt != nil && x.Kind == api.With {
			s.release(x.Name)
		}
	}
	return false
}
