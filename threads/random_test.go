package threads_test

import (
	"math/rand"
	"slices"
	"strings"
	"testing"

	"sepal/api"
	"sepal/machine"
)

// writer writes texts of random programs, the same ones each time. All procedures have the same variables, so that any statement fits into each of them.
type writer struct {
	*rand.Rand
	callees  []string // the procedures that the present one calls
	guarded  bool     // whether shared blocks are only accessed inside of a With of L
	noPar    bool
	bare     bool // whether accesses are not inside of tests
	accesses int  // an access is as likely as that many other statements
}

func (w *writer) one(l ...string) string { return l[w.Intn(len(l))] }

func (w *writer) cell() string { return w.one("x", "x", "t", "u", "c", "d") }

func (w *writer) expr() string {
	return w.one("r", "i", "n", "0", "1", "r + i", "i - n", "2 * r", "r + 1", "1048576 + r")
}

func (w *writer) cond() string {
	return w.one("i < r", "i < 2", "r <= n", "x == t", "u != null", "t == null && i < 3", "!(i == r)", "x != d || r == 1")
}

// access returns an access, mostly inside of a test that the address is not null, unless accesses are bare.
func (w *writer) access() string {
	a := w.cell()
	access := w.one("i = "+a+".n;", "r = "+a+".n;", "t = "+a+".next;", "u = "+a+".next;", a+".n = "+w.expr()+";", a+".next = "+w.cell()+";", a+".next = null;", "free "+a+";")
	if w.Intn(8) > 0 && !w.bare {
		access = "if (" + a + " != null) {\n" + access + "\n}"
	}
	if w.guarded {
		access = "with L {\n" + access + "\n}"
	}
	return access
}

func (w *writer) call() string {
	return w.one(w.callees...) + "(" + w.cell() + ", " + w.expr() + ")"
}

func (w *writer) statement(depth int) string {
	if w.Intn(1+w.accesses) < w.accesses {
		return w.access()
	}
	switch n := w.Intn(16); {
	case n < 2 && depth > 0:
		return "if (" + w.cond() + ") {\n" + w.list(depth-1) + "} else {\n" + w.list(depth-1) + "}"
	case n < 3 && depth > 0:
		return "while (i < 2) {\n" + w.list(depth-1) + "i = i + 1;\n}"
	case n < 6 && depth > 0 && !w.guarded:
		return "with " + w.one("L", "M") + " {\n" + w.list(depth-1) + "}"
	case n < 7 && len(w.callees) > 0:
		return w.one("", "r = ", "i = ") + w.call() + ";"
	case n < 11 && len(w.callees) > 0 && !w.noPar:
		return "par { " + w.one("", "r = ") + w.call() + "; } { " + w.one("", "i = ") + w.call() + "; }"
	case n < 12:
		return w.one("t", "u") + " = " + w.one("new Cell", "new Cell", w.cell()) + ";"
	case n < 13:
		return w.one("r", "i") + " = input;"
	case n < 14:
		return "assert " + w.cond() + " || " + w.cond() + ";"
	}
	return w.one("r", "i") + " = " + w.expr() + ";"
}

func (w *writer) list(depth int) string {
	text := ""
	for range w.Intn(4) {
		text += w.statement(depth) + "\n"
	}
	return text
}

// program returns the text of a program in which main begins threads at once, unless there must be none.
func (w *writer) program() string {
	body := func(name string, callees ...string) string {
		w.callees = callees
		first := ""
		if name == "main" && !w.noPar {
			first = "par { r = " + w.call() + "; } { i = " + w.call() + "; }\n"
		}
		return "procedure " + name + "(Cell x, int n) returns (int r) { int i; Cell t; Cell u;\n" + first + w.list(2) + w.list(1) + w.list(1) + "}\n"
	}
	return items + body("main", "f", "g", "h") + body("f", "g", "h", "h", "f") + body("g", "h") + body("h")
}

func (w *writer) numbers(most, values int) []int {
	l := make([]int, w.Intn(most+1))
	for i := range l {
		l[i] = w.Intn(values)
	}
	return l
}

// start returns a start in which some of the names, and of the fields, lead to the same blocks.
func (w *writer) start() machine.Start {
	s := withStore(start(), strings.Join([]string{"c=" + w.one("5", "8", "8", "0", "6"), "d=" + w.one("5", "5", "8"), "n=" + w.one("0", "1", "2"), "x=" + w.one("5", "8", "0")}, " "))
	s.Model.Memory = blocks(w.one(cells, cells, "5:Cell(1,5) 6:Cell(2,0) 8:Cell(0,6)", "8:Cell(0,8)"))
	s.Inputs, s.Choices = w.numbers(3, 3), w.numbers(3, 6)
	s.Fuel = w.Intn(60)
	if w.Intn(3) == 0 {
		s.Fuel = 200
	}
	return s
}

// run is a random run.
type run struct {
	text     string
	p        api.Program
	s        machine.Start
	schedule []int
}

// randomRuns calls visit for runs of random programs that a writer writes.
func randomRuns(t *testing.T, programs, runs int, prepare func(w *writer), visit func(x run)) {
	t.Helper()
	for seed := range programs {
		w := &writer{Rand: rand.New(rand.NewSource(int64(seed)))}
		w.accesses = w.Intn(3)
		prepare(w)
		text := w.program()
		p := parsed(t, text)
		for range runs {
			visit(run{text, p, w.start(), w.numbers(50, 1+w.Intn(7))})
		}
	}
}

func anything(*writer) {}

// TestRandomRuns compares runs with those of flat programs.
func TestRandomRuns(t *testing.T) {
	type way struct {
		kind int
		e    api.Errno
	}
	seen := map[way]int{}
	late, wide := 0, 0 // runs with a race that is not at the beginning, and those in which many threads can step
	randomRuns(t, 600, 3, anything, func(x run) {
		want := expected(x.p, x.s, x.schedule)
		if h := observed(t, x.p, x.s, x.schedule); !same(h, want) {
			t.Fatalf("%v instead of %v, from %v with %v of\n%s", h, want, x.s, x.schedule, x.text)
		}
		seen[way{want.o.Kind, want.o.E}]++
		if want.o.E == api.ErrRace && len(want.order) > 4 {
			late++
		}
		if slices.ContainsFunc(want.widths, func(n int) bool { return n > 3 }) {
			wide++
		}
	})
	for _, x := range []way{{machine.Ended, api.OK}, {machine.Blocked, api.ErrState}, {machine.Limit, api.ErrFull}, {machine.Limit, api.ErrBig}, {machine.Failed, api.ErrNull}, {machine.Failed, api.ErrDead}, {machine.Failed, api.ErrAssert}, {machine.Failed, api.ErrRace}} {
		if seen[x] < 40 {
			t.Error("too few runs end like this:", x, seen[x])
		}
	}
	if late < 100 || wide < 100 {
		t.Error(late, wide)
	}
}
