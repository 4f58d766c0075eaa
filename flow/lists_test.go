package flow_test

import (
	"math/rand"
	"reflect"
	"slices"
	"strings"
	"testing"

	"sepal/api"
	"sepal/parse"
	"sepal/tree"
)

// body returns the statements of a text.
func body(t testing.TB, text string) []api.Stmt {
	t.Helper()
	p, place, e := parse.Program("procedure p() {\n" + text + "\n}")
	if e != api.OK {
		t.Fatal(text, place, e)
	}
	return p.Procs[0].Body
}

// rich has statements of all kinds with all of their parts, and statements inside of all that can have some.
const rich = `x = y + 2 * (z - 1); a = b.next; c.next = d + e; f = new Node; free g; h = input; i = p(j, k + l); q(m);
if (n == o && !(p < q || r != 2)) { s = 1; if (s == 2) { t = 2; } else { u = 3; } v = 4; } else { while (w <= 3) { z = 5; } }
while (aa == null) invariant inv == 1 || exists Node ex: inw -> Node(ex) & ls(ex, null) { bb = 1; while (cc < dd) { ee = 1; while (0 < 1) { } } with L { ff = 2; } }
assert gg != hh;
with K { with L { ii = 1; } if (0 == 1) { } }
par { jj = p(kk, 2); } { q(ll); } par { p(mm); } { nn = q(); }`

func num(n int) api.Expr { return api.Expr{Kind: api.Num, N: n} }

func variable(name string) api.Expr { return api.Expr{Kind: api.Var, Name: name} }

func equation(a, b string) api.Cond {
	return api.Cond{Kind: api.Eq, A: variable(a), B: variable(b)}
}

func assign(name string) api.Stmt { return api.Stmt{Kind: api.Assign, Name: name, E: num(1)} }

// nests are the ways in which a list can stand in another one.
func nests() []func(l []api.Stmt) []api.Stmt {
	c := equation("a", "b")
	return []func(l []api.Stmt) []api.Stmt{
		func(l []api.Stmt) []api.Stmt { return []api.Stmt{{Kind: api.If, C: c, Body: l}} },
		func(l []api.Stmt) []api.Stmt { return []api.Stmt{{Kind: api.If, C: c, Else: l}} },
		func(l []api.Stmt) []api.Stmt { return []api.Stmt{{Kind: api.While, C: c, Body: l}} },
		func(l []api.Stmt) []api.Stmt { return []api.Stmt{{Kind: api.With, Name: "L", Body: l}} },
	}
}

// nested returns a list that stands in other ones, so many levels deep.
func nested(l []api.Stmt, levels int, nest func([]api.Stmt) []api.Stmt) []api.Stmt {
	for range levels {
		l = nest(l)
	}
	return l
}

// long returns a list with so many statements.
func long(n int) []api.Stmt { return slices.Repeat([]api.Stmt{assign("x")}, n) }

// deepCond returns a condition with this depth.
func deepCond(depth int) api.Cond {
	c := equation("a", "b")
	for range depth - 1 {
		c = api.Cond{Kind: api.Not, L: []api.Cond{c}}
	}
	return c
}

// same reports whether lists are equal, and the places of their statements, too.
func same(a, b []api.Stmt) bool {
	return tree.EqualStmts(a, b) && slices.Equal(places(a), places(b))
}

// places returns the places of the statements of a list in the order of their text.
func places(l []api.Stmt) []api.Pos {
	var all []api.Pos
	for _, s := range l {
		all = append(all, s.Pos)
		all = append(all, places(s.Body)...)
		all = append(all, places(s.Else)...)
	}
	return all
}

// copied returns a value that shares no memory with x; nil slices stay nil.
func copied[T any](x T) T {
	return copiedValue(reflect.ValueOf(&x).Elem()).Interface().(T)
}

func copiedValue(v reflect.Value) reflect.Value {
	to := reflect.New(v.Type()).Elem()
	switch v.Kind() {
	case reflect.Struct:
		for i := range v.NumField() {
			to.Field(i).Set(copiedValue(v.Field(i)))
		}
	case reflect.Slice:
		if !v.IsNil() {
			to.Set(reflect.MakeSlice(v.Type(), v.Len(), v.Len()))
		}
		for i := range v.Len() {
			to.Index(i).Set(copiedValue(v.Index(i)))
		}
	default:
		to.Set(v)
	}
	return to
}

// maker makes random lists of statements, the same ones each time, and notes what it has put into them. The line of a statement is its number.
type maker struct {
	*rand.Rand
	stmts, loops          int
	assigned, read, locks map[string]bool
}

func newMaker(seed int64) *maker {
	return &maker{Rand: rand.New(rand.NewSource(seed)), assigned: map[string]bool{}, read: map[string]bool{}, locks: map[string]bool{}}
}

func (m *maker) name() string {
	return strings.Fields("a b c d e f g h Node L x1 x_1 X y z $a $1 $_ long_name_of_letters")[m.Intn(19)]
}

// noted returns a random name, and notes it.
func (m *maker) noted(in map[string]bool) string {
	name := m.name()
	in[name] = true
	return name
}

func (m *maker) expr(depth int) api.Expr {
	switch n := m.Intn(7); {
	case n < 2 && depth > 0:
		return api.Expr{Kind: api.Add + m.Intn(2), L: []api.Expr{m.expr(depth - 1), m.expr(depth - 1)}}
	case n < 3 && depth > 0:
		return api.Expr{Kind: api.Mul, N: m.Intn(5), L: []api.Expr{m.expr(depth - 1)}}
	case n < 4:
		return num(m.Intn(9))
	case n < 5:
		return api.Expr{Kind: api.Null}
	}
	return variable(m.noted(m.read))
}

func (m *maker) cond(depth int) api.Cond {
	switch n := m.Intn(6); {
	case n < 1 && depth > 0:
		return api.Cond{Kind: api.Not, L: []api.Cond{m.cond(depth - 1)}}
	case n < 3 && depth > 0:
		return api.Cond{Kind: api.And + m.Intn(2), L: []api.Cond{m.cond(depth - 1), m.cond(depth - 1)}}
	}
	return api.Cond{Kind: api.Eq + m.Intn(4), A: m.expr(1), B: m.expr(1)}
}

func (m *maker) call() api.Call {
	c := api.Call{Proc: m.one("p", "q", "a")}
	if m.Intn(2) == 0 {
		c.Result = m.noted(m.assigned)
	}
	for range m.Intn(3) {
		c.Args = append(c.Args, m.expr(1))
	}
	return c
}

// invariant has names that are read nowhere else.
func (m *maker) invariant() []api.Formula {
	l := make([]api.Formula, m.Intn(3))
	for i := range l {
		l[i] = api.Formula{Exists: []api.Param{{Type: "int", Name: "bound"}}, Pure: []api.Atom{{Kind: api.Lt, A: variable("bound"), B: variable("inv")}}, Cells: []api.Cell{{Kind: api.Pred, Name: "ls", Args: []api.Expr{variable("cell")}}}}
	}
	return l
}

func (m *maker) one(l ...string) string { return l[m.Intn(len(l))] }

func (m *maker) stmt(depth int) api.Stmt {
	kinds := []int{api.Assign, api.Load, api.Save, api.New, api.Free, api.Input, api.Invoke, api.Assert, api.Par}
	if depth > 0 {
		kinds = append(kinds, api.If, api.If, api.If, api.While, api.While, api.While, api.With)
	}
	s := api.Stmt{Kind: kinds[m.Intn(len(kinds))], Pos: api.Pos{Line: m.stmts, Column: m.Intn(99)}}
	m.stmts++
	switch s.Kind {
	case api.Assign:
		s.Name, s.E = m.noted(m.assigned), m.expr(3)
	case api.Load:
		s.Name, s.From, s.Field = m.noted(m.assigned), m.noted(m.read), m.one("next", "a")
	case api.Save:
		s.Name, s.Field, s.E = m.noted(m.read), m.one("next", "a"), m.expr(1)
	case api.New:
		s.Name, s.From = m.noted(m.assigned), m.one("Node", "Cell", "a")
	case api.Free:
		s.Name = m.noted(m.read)
	case api.Input:
		s.Name = m.noted(m.assigned)
	case api.Invoke:
		s.Calls = []api.Call{m.call()}
	case api.Par:
		s.Calls = []api.Call{m.call(), m.call()}
	case api.Assert:
		s.C = m.cond(2)
	case api.If:
		s.C = m.cond(2)
		s.Body = m.list(depth - 1)
		s.Else = m.list(depth - 1)
	case api.While:
		m.loops++
		s.C, s.Inv = m.cond(2), m.invariant()
		s.Body = m.list(depth - 1)
	case api.With:
		s.Name = m.one("L", "K", "M", "a")
		m.locks[s.Name] = true
		s.Body = m.list(depth - 1)
	}
	return s
}

func (m *maker) list(depth int) []api.Stmt {
	var l []api.Stmt
	for range m.Intn(4) {
		l = append(l, m.stmt(depth))
	}
	return l
}

// randomly calls check with random lists of statements that have at least one.
func randomly(t *testing.T, times, depth int, check func(l []api.Stmt, m *maker)) {
	t.Helper()
	for seed := int64(0); times > 0; seed++ {
		m := newMaker(seed)
		l := m.list(depth)
		if len(l) == 0 {
			continue
		}
		if !tree.Stmts(l) || len(places(l)) != m.stmts {
			t.Fatal("not a valid list:", l)
		}
		times--
		check(l, m)
	}
}
