// Package steps has the states of runs of programs, and the steps that their threads can do: what the machine, whose runs go on with the thread of the least number, and runs that are scheduled have in common.
package steps

import (
	"sepal/api"
	"sepal/memory"
	"sepal/types"
)

// State is a state of a run.
type State struct {
	program         api.Program
	globals         []api.Binding
	procs           map[string]*procedure // those that were called so far
	main            *Thread
	queued          []*Thread         // the threads that are in queues, by their numbers
	ready           *queue            // the threads before other statements than With
	waiting         map[string]*queue // the threads before a With, by the lock
	queues          []*queue          // ready and waiting
	able            []*queue          // those of the queues whose threads can step
	arrived         []*Thread
	held            map[string]bool // the locks that are held
	memory          []api.Block
	inputs, choices []int // those that were not used
}

// Begin returns the state at the beginning of a run of a procedure from a model. These must be those of a valid start for a valid program.
func Begin(p api.Program, proc string, m api.Model, inputs, choices []int) *State {
	s := &State{
		program: p,
		globals: Store(p.Globals, m.Store),
		procs:   map[string]*procedure{},
		ready:   &queue{},
		waiting: map[string]*queue{},
		held:    map[string]bool{},
		inputs:  inputs,
		choices: choices,
	}
	s.queues = []*queue{s.ready}
	for _, x := range p.Locks {
		q := &queue{lock: x.Name}
		s.waiting[x.Name] = q
		s.queues = append(s.queues, q)
	}
	s.open()
	s.memory, _ = memory.Join(m.Memory, nil) // a copy
	f := s.frame(proc)
	for _, b := range m.Store {
		f.set(b.Name, b.Value)
	}
	s.main = s.thread(f, nil)
	s.settle(s.main)
	return s
}

// Ended reports whether the thread 0 has ended.
func (s *State) Ended() bool {
	return s.main.ended
}

// Arrived returns the threads that have come before a statement by the last step, or at the beginning. The list is good until the next step.
func (s *State) Arrived() []*Thread {
	return s.arrived
}

// Model returns the memory, and a store with the variables of the first frame of the thread 0 that an outcome tells. It is good until the next step.
func (s *State) Model() api.Model {
	f := s.main.frames[0]
	return api.Model{Store: Store(f.of.shown, f.store), Memory: s.memory}
}

// procedure returns the procedure with a name.
func (s *State) procedure(name string) *procedure {
	if x, ok := s.procs[name]; ok {
		return x
	}
	proc, _ := types.Proc(s.program, name)
	scope, _ := types.Scope(s.program, name)
	x := &procedure{Proc: proc, kinds: map[string]string{}, shown: Given(s.program, proc), store: Store(scope, s.globals)}
	for _, v := range scope {
		x.kinds[v.Name] = v.Type
	}
	if proc.Result.Name != "" {
		x.shown = append(x.shown, proc.Result)
	}
	s.procs[name] = x
	return x
}

// frame returns a frame at the beginning of a procedure, in which all variables but the globals are 0.
func (s *State) frame(proc string) frame {
	x := s.procedure(proc)
	return frame{of: x, store: x.store, todo: []part{{rest: x.Body}}}
}

// thread returns a thread with the next number.
func (s *State) thread(f frame, parent *Thread) *Thread {
	t := &Thread{Number: len(s.queued), frames: []frame{f}, parent: parent}
	s.queued = append(s.queued, nil)
	return t
}

// settle does all that these threads can do without a step, and what this lets their parents do.
func (s *State) settle(l ...*Thread) {
	for _, t := range l {
		for t != nil && !s.hasNext(t.top()) {
			t = t.leave()
		}
		if t != nil {
			s.join(t)
		}
	}
}

// hasNext reports whether a frame has a next statement, and does the releases that stand before that.
func (s *State) hasNext(f *frame) bool {
	for n := len(f.todo) - 1; n >= 0; n-- {
		x := f.todo[n]
		if len(x.rest) > 0 {
			return true
		}
		f.todo = f.todo[:n]
		if x.Stmt != nil && x.Kind == api.With {
			s.release(x.Name)
		}
	}
	return false
}
