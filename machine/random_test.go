package machine_test

import (
	"math/rand"
	"slices"
	"strings"
	"testing"

	"sepal/api"
	"sepal/machine"
	"sepal/tree"
)

// writer writes texts of random programs, the same ones each time. All procedures have the same variables, so that any statement fits into each of them.
type writer struct {
	*rand.Rand
	callees []string // the procedures that the present one calls
}

func (w writer) one(l ...string) string { return l[w.Intn(len(l))] }

func (w writer) node() string    { return w.one("x", "t", "u", "t", "u", "z") }
func (w writer) pair() string    { return w.one("y", "p", "q", "p", "q") }
func (w writer) integer() string { return w.one("i", "j", "r") }

func (w writer) expr() string {
	leaf := func() string { return w.one("n", "g", "i", "j", "r", "0", "1", "2", "-3") }
	switch w.Intn(12) {
	case 0, 1, 2:
		return leaf() + w.one(" + ", " - ") + leaf()
	case 3:
		return w.one("2", "-3") + " * " + leaf()
	case 4:
		return w.one("1048576", "-1048576", "r + 1048575")
	}
	return leaf()
}

func (w writer) cond() string {
	switch w.Intn(8) {
	case 0:
		return w.node() + w.one(" == ", " != ") + w.one("null", w.node())
	case 1:
		return w.pair() + " != null"
	case 2:
		return w.cond() + w.one(" && ", " || ") + w.cond()
	case 3:
		return "!(" + w.cond() + ")"
	}
	return w.expr() + w.one(" == ", " != ", " <= ", " < ") + w.expr()
}

// guarded returns an access, mostly inside of a test that the address is not null.
func (w writer) guarded(address, access string) string {
	if w.Intn(6) == 0 {
		return access
	}
	return "if (" + address + " != null) { " + access + " }"
}

func (w writer) access() string {
	a, b := w.node(), w.pair()
	switch w.Intn(9) {
	case 0, 1:
		return w.guarded(a, w.one("t", "u")+" = "+a+".next;")
	case 2:
		return w.guarded(a, a+".next = "+w.one("null", w.node())+";")
	case 3:
		return w.guarded(b, w.integer()+" = "+b+w.one(".a;", ".c;"))
	case 4:
		return w.guarded(b, w.one("p", "q")+" = "+b+".b;")
	case 5:
		return w.guarded(b, b+w.one(".a", ".c")+" = "+w.expr()+";")
	case 6:
		return w.guarded(b, b+".b = "+w.pair()+";")
	}
	return w.guarded(a, "free "+w.one(a, a, b)+";")
}

func (w writer) call() string {
	args := "(" + w.node() + ", " + w.pair() + ", " + w.expr() + ")"
	callee := w.one(w.callees...)
	if callee == "h" {
		return callee + args
	}
	return w.one("", "", "i = ", "j = ", "r = ") + callee + args
}

func (w writer) fork() string {
	first, second := w.call(), w.call()
	for strings.Contains(first, "=") && strings.Contains(second, "=") && first[0] == second[0] {
		second = w.call()
	}
	return "par { " + first + "; } { " + second + "; }"
}

func (w writer) statement(depth int) string {
	switch n := w.Intn(26); {
	case n < 3 && depth > 0:
		return "if (" + w.cond() + ") {\n" + w.list(depth-1) + "} else {\n" + w.list(depth-1) + "}"
	case n < 5 && depth > 0:
		return "while (" + w.cond() + ") {\n" + w.list(depth-1) + "}"
	case n < 8 && depth > 0:
		return "with " + w.one("L", "M") + " {\n" + w.list(depth-1) + "}"
	case n < 9 && len(w.callees) > 0:
		return w.call() + ";"
	case n < 11 && len(w.callees) > 0:
		return w.fork()
	case n < 13:
		return w.integer() + " = " + w.one(w.expr(), w.expr(), "input") + ";"
	case n < 15:
		return w.one("t", "u") + " = " + w.one(w.node(), "new Node") + ";"
	case n < 16:
		return w.one("p", "q") + " = " + w.one(w.pair(), "new Pair", "new Pair") + ";"
	case n < 17:
		return "assert " + w.one(w.cond()+" || "+w.cond(), w.cond()+" || 0 <= g") + ";"
	}
	return w.access()
}

func (w writer) list(depth int) string {
	text := ""
	for range w.Intn(5) {
		text += w.statement(depth) + "\n"
	}
	return text
}

func (w writer) program() string {
	const locals = "Node t; Node u; Pair p; Pair q; int i; int j; "
	const params = "(Node x, Pair y, int n) "
	body := func(depth int, callees ...string) string {
		w.callees = callees
		return w.list(depth) + w.list(depth-1) + w.list(depth-1) + "}\n"
	}
	return "procedure main" + params + "returns (int r) logical (int k) requires emp ensures emp {" + locals + body(3, "f", "f", "f", "h", "main") +
		"procedure f" + params + "returns (int r) {" + locals + body(2, "h", "h", "h", "f") +
		"procedure h" + params + "{" + locals + "int r;" + body(2) +
		"record Node { Node next; } record Pair { int a; Pair b; int c; } global int g; global Node z; lock L invariant emp; lock M invariant emp;"
}

func (w writer) numbers(most, values int) []int {
	l := make([]int, w.Intn(most+1))
	for i := range l {
		l[i] = w.Intn(values)
	}
	return l
}

// start returns a start in which the addresses of most blocks and variables are those of blocks.
func (w writer) start() machine.Start {
	m := []api.Block{}
	address := func(record string) int {
		var l []int
		for _, b := range m {
			if b.Record == record {
				l = append(l, b.Address)
			}
		}
		if len(l) == 0 || w.Intn(5) == 0 {
			return w.Intn(3) * w.Intn(10)
		}
		return l[w.Intn(len(l))]
	}
	for a := 1; a < 10; a++ {
		if b := (api.Block{Address: a, Record: "Node", Fields: []int{0}}); w.Intn(3) == 0 {
			m = append(m, b)
		} else if w.Intn(4) == 0 {
			b.Record, b.Fields = "Pair", []int{w.Intn(9) - 4, 0, w.Intn(9) - 4}
			m = append(m, b)
		}
	}
	for _, b := range m {
		if b.Record == "Node" {
			b.Fields[0] = address("Node")
		} else {
			b.Fields[1] = address("Pair")
		}
	}
	s := []api.Binding{{Name: "g", Value: w.Intn(3)}, {Name: "k", Value: 5}, {Name: "n", Value: w.Intn(4)}, {Name: "x", Value: address("Node")}, {Name: "y", Value: address("Pair")}, {Name: "z", Value: address("Node")}}
	return machine.Start{Proc: "main", Model: api.Model{Store: s, Memory: m}, Inputs: w.numbers(4, 4), Choices: w.numbers(4, 7), Fuel: w.Intn(20) * w.Intn(8)}
}

// randomRuns calls visit for random programs with random starts.
func randomRuns(t *testing.T, programs, starts int, visit func(text string, p api.Program, s machine.Start)) {
	t.Helper()
	for seed := range programs {
		w := writer{Rand: rand.New(rand.NewSource(int64(seed)))}
		text := w.program()
		p := parsed(t, text)
		for range starts {
			visit(text, p, w.start())
		}
	}
}

// TestRandomRuns compares runs with those of a world.
func TestRandomRuns(t *testing.T) {
	type way struct {
		kind int
		e    api.Errno
	}
	seen := map[way]int{}
	kinds := map[int]int{}
	randomRuns(t, 1000, 4, func(text string, p api.Program, s machine.Start) {
		want, trace, _, _ := expected(p, s)
		o, e := machine.Run(p, s)
		if !sameOutcome(o, want) || e != api.OK {
			t.Fatalf("%v and %d instead of %v, from %v of\n%s", o, e, want, s, text)
		}
		if l, e := machine.Trace(p, s); !slices.Equal(l, trace) || e != api.OK {
			t.Fatalf("%v and %d instead of %v, from %v of\n%s", l, e, trace, s, text)
		}
		seen[way{o.Kind, o.E}]++
		for _, x := range statementsAt(p, trace) {
			kinds[x.Kind]++
		}
	})
	for _, x := range []way{{machine.Ended, api.OK}, {machine.Blocked, api.ErrState}, {machine.Limit, api.ErrFull}, {machine.Limit, api.ErrBig}, {machine.Failed, api.ErrNull}, {machine.Failed, api.ErrDead}, {machine.Failed, api.ErrRecord}, {machine.Failed, api.ErrAssert}} {
		if seen[x] < 20 {
			t.Error("too few runs end like this:", x, seen[x])
		}
	}
	for kind := api.Assign; kind <= api.Par; kind++ {
		if kinds[kind] < 300 {
			t.Error("too few steps of this kind:", kind, kinds[kind])
		}
	}
}

// statementsAt returns the statements of a program with these places.
func statementsAt(p api.Program, places []api.Pos) []api.Stmt {
	at := map[api.Pos]api.Stmt{}
	for _, x := range p.Procs {
		for _, s := range tree.Walk(x.Body) {
			at[s.Pos] = s
		}
	}
	var l []api.Stmt
	for _, x := range places {
		l = append(l, at[x])
	}
	return l
}
