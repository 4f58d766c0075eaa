package types

import "sepal/api"

// body checks the statements of a procedure.
type body struct {
	*checker
	variables
	assignable []api.Param
}

func (b body) stmts(l []api.Stmt) {
	for _, s := range l {
		b.place = s.Pos
		b.stmt(s)
		b.stmts(s.Body)
		b.stmts(s.Else)
	}
}

// stmt checks a statement, but not those inside of it.
func (b body) stmt(s api.Stmt) {
	switch s.Kind {
	case api.Assign:
		b.assign(s)
	case api.Load:
		b.load(s)
	case api.Save:
		b.save(s)
	case api.New:
		b.allocate(s)
	case api.Free:
		b.record(s.Name)
	case api.Input:
		demand(b.target(s.Name) == integer, api.ErrType, s.Name)
	case api.Invoke:
		b.call(s.Calls[0])
	case api.If, api.Assert:
		b.cond(s.C)
	case api.While:
		b.cond(s.C)
		b.formulas(b.scope, s.Inv)
	case api.With:
		find(b.Locks, s.Name, lockName)
	case api.Par:
		b.par(s.Calls[0], s.Calls[1])
	}
}

// target returns the type of a variable that is assigned to.
func (b body) target(name string) string {
	kind := find(b.scope, name, paramName).Type
	demand(has(b.assignable, name), api.ErrState, name)
	return kind
}

// record returns the record of a variable that is used as an address.
func (b body) record(name string) api.Record {
	r, ok := first(b.Records, b.kind(name), recordName)
	demand(ok, api.ErrType, name)
	return r
}

func (b body) assign(s api.Stmt) {
	want := b.target(s.Name)
	demand(Fits(b.expr(s.E), want), api.ErrType, s.Name)
}

func (b body) load(s api.Stmt) {
	want := b.target(s.Name)
	field := find(b.record(s.From).Fields, s.Field, paramName)
	demand(field.Type == want, api.ErrType, s.Name)
}

func (b body) save(s api.Stmt) {
	field := find(b.record(s.Name).Fields, s.Field, paramName)
	demand(Fits(b.expr(s.E), field.Type), api.ErrType, s.Field)
}

func (b body) allocate(s api.Stmt) {
	r := find(b.Records, s.From, recordName)
	demand(b.target(s.Name) == r.Name, api.ErrType, s.Name)
}

func (b body) call(c api.Call) {
	x := find(b.Procs, c.Proc, procName)
	b.args(c.Args, x.Params, c.Proc)
	if c.Result != "" {
		demand(b.target(c.Result) == x.Result.Type, api.ErrType, c.Result)
	}
}

func (b body) par(one, other api.Call) {
	b.call(one)
	b.call(other)
	demand(one.Result == "" || one.Result != other.Result, api.ErrTwice, one.Result)
}
