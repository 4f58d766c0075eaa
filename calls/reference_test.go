package calls_test

import (
	"math/rand"
	"slices"
	"strings"
	"testing"

	"sepal/api"
	"sepal/calls"
)

// edge is a call of the second procedure by the first one.
type edge [2]string

// reference answers in the words of the chapter. Its names are in ascending order.
type reference struct {
	names        []string
	calls, reach map[edge]bool
}

func referenceOf(names []string, edges map[edge]bool) reference {
	r := reference{names: slices.Sorted(slices.Values(names)), calls: edges, reach: map[edge]bool{}}
	for e := range edges {
		r.reach[e] = true
	}
	for _, by := range r.names {
		for _, a := range r.names {
			for _, b := range r.names {
				if r.reach[edge{a, by}] && r.reach[edge{by, b}] {
					r.reach[edge{a, b}] = true
				}
			}
		}
	}
	return r
}

// all returns the names for which a condition holds.
func (r reference) all(holds func(name string) bool) []string {
	return slices.DeleteFunc(slices.Clone(r.names), func(name string) bool { return !holds(name) })
}

func (r reference) together(a, b string) bool {
	return a == b || r.reach[edge{a, b}] && r.reach[edge{b, a}]
}

func (r reference) components() [][]string {
	var l [][]string
	seen := map[string]bool{}
	for {
		// The first name of a component is its least one, and the first such component the one that is next.
		i := slices.IndexFunc(r.names, func(name string) bool {
			return !seen[name] && !slices.ContainsFunc(r.names, func(one string) bool {
				return r.together(name, one) && slices.ContainsFunc(r.names, func(callee string) bool {
					return r.calls[edge{one, callee}] && !seen[callee] && !r.together(name, callee)
				})
			})
		})
		if i < 0 {
			return l
		}
		c := r.all(func(name string) bool { return r.together(r.names[i], name) })
		for _, name := range c {
			seen[name] = true
		}
		l = append(l, c)
	}
}

func (r reference) reached(from []string) []string {
	return r.all(func(name string) bool {
		return slices.ContainsFunc(from, func(x string) bool { return x == name || r.reach[edge{x, name}] })
	})
}

func (r reference) affected(by []string) []string {
	return r.all(func(name string) bool {
		return slices.ContainsFunc(by, func(x string) bool { return x == name || r.reach[edge{name, x}] })
	})
}

// check demands the answers of the reference for a program; the lists are names that are asked about together.
func (r reference) check(t *testing.T, p api.Program, lists ...[]string) {
	t.Helper()
	if l := calls.Components(p); !slices.EqualFunc(l, r.components(), slices.Equal) {
		t.Errorf("%v: %v", r, l)
	}
	for _, name := range append([]string{"none", ""}, r.names...) {
		callees := r.all(func(x string) bool { return r.calls[edge{name, x}] })
		callers := r.all(func(x string) bool { return r.calls[edge{x, name}] })
		if l := calls.Callees(p, name); !slices.Equal(l, callees) {
			t.Errorf("%v: %s calls %v", r, name, l)
		}
		if l := calls.Callers(p, name); !slices.Equal(l, callers) {
			t.Errorf("%v: %s is called by %v", r, name, l)
		}
		if calls.Recursive(p, name) != r.reach[edge{name, name}] {
			t.Errorf("%v: %s is recursive, or not", r, name)
		}
		lists = append(lists, []string{name})
	}
	for _, names := range lists {
		if l := calls.Reach(p, names); !slices.Equal(l, r.reached(names)) {
			t.Errorf("%v: %v reach %v", r, names, l)
		}
		if l := calls.Affected(p, names); !slices.Equal(l, r.affected(names)) {
			t.Errorf("%v: %v affect %v", r, names, l)
		}
	}
}

// programOf returns the program of a graph.
func programOf(names []string, edges map[edge]bool) api.Program {
	var p api.Program
	for _, name := range names {
		x := api.Proc{Name: name}
		for _, callee := range names {
			if edges[edge{name, callee}] {
				x.Body = append(x.Body, invoke(callee))
			}
		}
		p.Procs = append(p.Procs, x)
	}
	return p
}

// TestAllSmallGraphs goes through all graphs of up to three procedures, and some of four.
func TestAllSmallGraphs(t *testing.T) {
	names := []string{"b", "d", "a", "c"}
	for n := range len(names) + 1 {
		step := 1
		if n == 4 {
			step = 31
		}
		for bits := 0; bits < 1<<(n*n); bits += step {
			edges := map[edge]bool{}
			for i := range n * n {
				if bits>>i&1 == 1 {
					edges[edge{names[i/n], names[i%n]}] = true
				}
			}
			some := names[:bits%(n+1)]
			referenceOf(names[:n], edges).check(t, programOf(names[:n], edges), some)
		}
	}
}

// maker makes random programs, the same ones each time, and notes which procedure calls which one.
type maker struct {
	*rand.Rand
	names []string
	edges map[edge]bool
}

// callee returns a random procedure, and notes that it is called.
func (m *maker) callee(by string) api.Call {
	c := api.Call{Proc: m.names[m.Intn(len(m.names))]}
	m.edges[edge{by, c.Proc}] = true
	return c
}

func (m *maker) stmt(by string, depth int) api.Stmt {
	switch n := m.Intn(8); {
	case n == 0:
		return api.Stmt{Kind: api.Par, Calls: []api.Call{m.callee(by), m.callee(by)}}
	case n < 3:
		return api.Stmt{Kind: api.Invoke, Calls: []api.Call{m.callee(by)}}
	case n < 4 || depth == 0:
		return api.Stmt{Kind: api.Assert, C: always()}
	}
	s := nests()[m.Intn(4)](m.list(by, depth-1))[0]
	if s.Kind == api.If && len(s.Else) == 0 {
		s.Else = m.list(by, depth-1)
	}
	return s
}

func (m *maker) list(by string, depth int) []api.Stmt {
	var l []api.Stmt
	for range m.Intn(3) {
		l = append(l, m.stmt(by, depth))
	}
	return l
}

// randomly calls visit with random programs, and the makers that have made them.
func randomly(t *testing.T, times int, visit func(p api.Program, m *maker)) {
	t.Helper()
	for seed := range int64(times) {
		m := &maker{Rand: rand.New(rand.NewSource(seed)), edges: map[edge]bool{}}
		pool := strings.Fields("a b c A B a1 a10 a2 a_ aB main p_1 p1 p10 p2 z")
		for _, i := range m.Perm(len(pool))[:1+m.Intn(len(pool))] {
			m.names = append(m.names, pool[i])
		}
		p := parsed(t, "lock L invariant emp;")
		for _, name := range m.names {
			p.Procs = append(p.Procs, api.Proc{Name: name, Body: m.list(name, 3)})
		}
		visit(valid(t, p), m)
	}
}

// some returns random names of procedures, some of them twice, and some that are none.
func (m *maker) some() []string {
	pool := slices.Concat(m.names, []string{"none", "b_"})
	l := []string{}
	for range m.Intn(5) {
		l = append(l, pool[m.Intn(len(pool))])
	}
	return l
}

func TestRandomPrograms(t *testing.T) {
	apart, together := 0, 0
	randomly(t, 500, func(p api.Program, m *maker) {
		r := referenceOf(m.names, m.edges)
		r.check(t, p, m.some(), m.some(), m.names)
		for _, c := range r.components() {
			if len(c) > 1 {
				together++
			} else {
				apart++
			}
		}
	})
	if apart < 500 || together < 50 {
		t.Error(apart, together)
	}
}
