package threads_test

import (
	"strings"
	"testing"

	"sepal/api"
	"sepal/machine"
)

// pair returns a program with two threads that have these statements, each behind one that accesses nothing.
func pair(one, two string) string {
	return items + `procedure main() {
	par { one(c, d); } { two(c, d); } # m
}
procedure one(Cell x, Cell y) { int i; Cell t; Cell u;
	t = x; # t1
	` + one + ` # one
}
procedure two(Cell x, Cell y) { int i; Cell t; Cell u;
	t = x; # t2
	` + two + ` # two
}
procedure none() { }
procedure take(Cell x) { }
procedure use(Cell y, Cell x) {
	y.n = 1; # use
}`
}

// meet lets both threads of a pair come before their statements.
var meet = []int{0, 0, 1}

// TestPairs demands that there is a race of two accesses if and only if they are of the same block, and one of them writes.
func TestPairs(t *testing.T) {
	type stmt struct {
		text   string
		block  string // the block that it accesses
		writes bool
	}
	l := []stmt{
		{"x.n = 3;", "c", true}, {"x.next = null;", "c", true}, {"x.next = x;", "c", true}, {"c.n = i;", "c", true}, {"t.next = u;", "c", true},
		{"free x;", "c", true}, {"free c;", "c", true}, {"free t;", "c", true},
		{"i = x.n;", "c", false}, {"u = x.next;", "c", false}, {"i = c.n;", "c", false}, {"u = t.next;", "c", false}, {"t = t.next;", "c", false},
		{"y.n = 1;", "d", true}, {"d.n = i + 1;", "d", true}, {"d.next = c;", "d", true}, {"y.next = x;", "d", true}, {"free d;", "d", true},
		{"i = y.n;", "d", false}, {"t = d.next;", "d", false}, {"u = y.next;", "d", false},
	}
	for _, text := range []string{
		"i = i + 1;", "t = c;", "u = x;", "u = new Cell;", "t = new Cell;", "i = input;", "assert x == t && x != y;", "if (x == c) { }", "while (x == y) { }",
		"with L { x.n = 1; }", "none();", "take(x);", "par { take(x); } { take(x); }", "i = u.n;", "u.n = 1;", "free u;",
	} {
		l = append(l, stmt{text: text})
	}
	for _, one := range l {
		for _, two := range l {
			want := full
			if one.block == two.block && one.block != "" && (one.writes || two.writes) {
				want = race("one")
			}
			checkRun(t, pair(one.text, two.text), withFuel(start(), 3), example{meet, want, "0:m 1:t1 2:t2", []int{1, 2, 2}, 2})
		}
	}
}

// TestNoMeeting demands that there is no race if the threads are not before their statements at the same time.
func TestNoMeeting(t *testing.T) {
	text := pair("x.n = 3;", "x.n = 4;")
	checkRuns(t, text, start(),
		example{nil, ended, "0:m 1:t1 1:one 2:t2 2:two", []int{1, 2, 2, 1, 1}, 2},
		example{[]int{0, 1, 1}, ended, "0:m 2:t2 2:two 1:t1 1:one", []int{1, 2, 2, 1, 1}, 2},
		example{[]int{0, 1}, race("one"), "0:m 2:t2 1:t1", []int{1, 2, 2}, 2},
	)
}

// TestEarlierAccesses demands that accesses that were done do not matter any more.
func TestEarlierAccesses(t *testing.T) {
	for _, first := range []string{"i = c.n;", "c.n = 1;", "i = d.n;", "i = 1;"} {
		for _, x := range []struct {
			one, two string
			end      end
		}{
			{"i = x.n;", "x.n = 1;", race("one")},
			{"x.n = 1;", "i = x.n;", race("one")},
			{"x.n = 1;", "x.n = 2;", race("one")},
			{"i = x.n;", "i = x.n;", full},
			{"x.n = 1;", "y.n = 1;", full},
		} {
			text := strings.Replace(pair(x.one, x.two), "main() {\n", "main() { int i;\n"+first+" # first\n", 1)
			checkRun(t, text, withFuel(start(), 4), example{[]int{0, 0, 0, 1}, x.end, "0:first 0:m 1:t1 2:t2", []int{1, 1, 2, 2}, 2})
		}
		text := strings.Replace(pair("i = x.n;\ni = x.n;\ni = y.n;", "y.n = 1;\nx.n = 1;"), "main() {\n", "main() { int i;\n"+first+" # first\n", 1)
		checkRuns(t, text, start(),
			example{[]int{0, 0, 0, 1, 1, 0, 0}, race(""), "0:first 0:m 1:t1 2:t2 2:", []int{1, 1, 2, 2, 2}, 2},
			example{[]int{0, 0, 0, 1, 0, 0}, race("one"), "0:first 0:m 1:t1 2:t2 1: 1:", []int{1, 1, 2, 2, 2, 2}, 3},
			example{[]int{0, 0, 0, 0, 0, 0, 0}, ended, "0:first 0:m 1:t1 1: 1: 1:one 2:t2 2: 2:two", []int{1, 1, 2, 2, 2, 2, 1, 1, 1}, 2},
		)
	}
}

// TestAddresses has other addresses: 0, with which there is no race, and some at which nothing is allocated.
func TestAddresses(t *testing.T) {
	text := pair("x.n = 3;", "x.n = 4;")
	null := end{machine.Failed, api.ErrNull, "one"}
	checkRuns(t, text, withStore(start(), "c=0 d=0"),
		example{meet, null, "0:m 1:t1 2:t2", []int{1, 2, 2, 2}, 2},
		example{[]int{0, 0, 1, 1}, end{machine.Failed, api.ErrNull, "two"}, "0:m 1:t1 2:t2", []int{1, 2, 2, 2}, 2},
	)
	for _, stmts := range [][2]string{{"free x;", "free x;"}, {"i = x.n;", "free y;"}, {"free u;", "u.n = 1;"}} {
		checkRun(t, pair(stmts[0], stmts[1]), withStore(start(), "c=0 d=0"), example{meet, null, "0:m 1:t1 2:t2", []int{1, 2, 2, 2}, 2})
	}
	for _, addresses := range []string{"c=6 d=8", "c=-5 d=8", "c=1048576 d=8", "c=-1048576 d=8", "c=1 d=8"} {
		checkRun(t, text, withStore(start(), addresses), example{meet, race("one"), "0:m 1:t1 2:t2", []int{1, 2, 2}, 2})
	}
	// two names of the start for the same block
	checkRun(t, pair("x.n = 3;", "i = y.n;"), withStore(start(), "c=8 d=8"), example{meet, race("one"), "0:m 1:t1 2:t2", []int{1, 2, 2}, 2})
	checkRun(t, pair("i = d.n;", "c.n = i;"), withStore(start(), "c=5 d=5"), example{meet, race("one"), "0:m 1:t1 2:t2", []int{1, 2, 2}, 2})
	checkRun(t, pair("x.n = 3;", "i = y.n;"), withStore(start(), "c=5 d=-5"), example{meet, end{machine.Failed, api.ErrDead, "two"}, "0:m 1:t1 2:t2 1:one", []int{1, 2, 2, 2, 1}, 3})
}

// TestWaiting demands that threads that wait, for a lock or for two threads, access nothing.
func TestWaiting(t *testing.T) {
	checkRuns(t, pair("with L { x.n = 3; }", "with L { x.n = 4; }"), start(),
		example{meet, ended, "0:m 1:t1 2:t2 1:one 1:one 2:two 2:two", []int{1, 2, 2, 2, 1, 1, 1}, 4},
		example{[]int{0, 0, 1, 1}, ended, "0:m 1:t1 2:t2 2:two 2:two 1:one 1:one", []int{1, 2, 2, 2, 1, 1, 1}, 3},
	)
	// different locks, and a lock on one side only
	checkRun(t, pair("with L { x.n = 3; }", "with M { x.n = 4; }"), start(), example{[]int{0, 0, 1, 0, 1}, race("one"), "0:m 1:t1 2:t2 1:one 2:two", []int{1, 2, 2, 2, 2}, 4})
	checkRun(t, pair("with L { x.n = 3; }", "i = x.n;"), start(), example{meet, race("one"), "0:m 1:t1 2:t2 1:one", []int{1, 2, 2, 2}, 3})
	// behind a With
	checkRun(t, pair("with L { # w\ni = 1; # i\n}\nx.n = 3;", "x.n = 4;"), start(), example{meet, race("one"), "0:m 1:t1 2:t2 1:w 1:i", []int{1, 2, 2, 2, 2}, 3})

	text := items + `procedure main() {
	par { one(c); } { two(c); } # m1
	c.n = 0; # m2
}
procedure one(Cell x) {
	par { two(x); } { none(); } # one
	x.n = 7; # back
}
procedure two(Cell x) { int i;
	i = x.n; # two
}
procedure none() { }`
	checkRuns(t, text, start(),
		example{[]int{0, 1}, ended, "0:m1 2:two 1:one 3:two 1:back 0:m2", []int{1, 2, 1, 1, 1, 1}, 5},
		example{[]int{0, 0, 0}, ended, "0:m1 1:one 2:two 3:two 1:back 0:m2", []int{1, 2, 2, 1, 1, 1}, 5},
		// the thread 1 goes on while 2 is still there
		example{[]int{0, 0, 1}, race("back"), "0:m1 1:one 3:two", []int{1, 2, 2}, 2},
	)
}

// TestFrames demands that the address is that of the present frame.
func TestFrames(t *testing.T) {
	checkRuns(t, pair("use(x, y);", "use(y, x);"), start(), example{[]int{0, 0, 1, 0, 1}, ended, "0:m 1:t1 2:t2 1:one 2:two 1:use 2:use", []int{1, 2, 2, 2, 2, 2, 1}, 6})
	checkRuns(t, pair("use(x, y);", "use(t, y);"), start(), example{[]int{0, 0, 1, 0, 1}, race("use"), "0:m 1:t1 2:t2 1:one 2:two", []int{1, 2, 2, 2, 2}, 4})
	checkRuns(t, pair("use(y, x);", "y.n = 1;"), start(), example{meet, race("use"), "0:m 1:t1 2:t2 1:one", []int{1, 2, 2, 2}, 3})
	// values that have changed since
	checkRuns(t, pair("t = y;\nt.n = 1;", "t.n = 1;"), start(), example{[]int{0, 0, 0, 1}, ended, "0:m 1:t1 1: 2:t2 1:one 2:two", []int{1, 2, 2, 2, 2, 1}, 4})
	checkRuns(t, pair("t = t.next;\nt.n = 1;", "y.n = 1;"), start(), example{[]int{0, 0, 0, 1}, race("one"), "0:m 1:t1 1: 2:t2", []int{1, 2, 2, 2}, 2})
}

// TestLeastNumber demands that the place is that of the thread with the least number that belongs to a race.
func TestLeastNumber(t *testing.T) {
	text := items + `procedure main() {
	par { left(c, d); } { right(c, d); } # m
}
procedure left(Cell x, Cell y) {
	par { a(x, y); } { b(x, y); } # left
}
procedure right(Cell x, Cell y) {
	par { e(x, y); } { f(x, y); } # right
}
procedure a(Cell x, Cell y) { int i;
	A # a
}
procedure b(Cell x, Cell y) { int i;
	B # b
}
procedure e(Cell x, Cell y) { int i;
	E # e
}
procedure f(Cell x, Cell y) { int i;
	F # f
}`
	for _, x := range []struct{ a, b, e, f, first, second string }{
		// two races at once, of 3 and 5, 4 and 6, or the other way around
		{"x.n = 1;", "y.n = 1;", "x.n = 1;", "y.n = 1;", "a", "e"},
		{"x.n = 1;", "y.n = 1;", "y.n = 1;", "x.n = 1;", "a", "e"},
		{"i = x.n;", "i = y.n;", "y.n = 1;", "x.n = 1;", "a", "e"},
		{"i = x.n;", "i = y.n;", "free x;", "free y;", "a", "e"},
		// one race
		{"i = x.n;", "i = y.n;", "y.n = 1;", "i = x.n;", "b", "e"},
		{"i = x.n;", "y.n = 1;", "i = x.n;", "i = y.n;", "b", "f"},
		{"i = x.n;", "i = y.n;", "i = 1;", "free y;", "b", "f"},
		{"i = y.n;", "i = x.n;", "y.n = 1;", "i = 2;", "a", "e"},
		{"x.n = 1;", "y.n = 1;", "i = 2;", "free x;", "a", "f"},
		// more than one race of the same block; nothing for those that have one before
		{"i = x.n;", "i = x.n;", "y.n = 1;", "x.n = 1;", "a", "f"},
		{"i = 1;", "i = x.n;", "i = x.n;", "x.n = 1;", "b", ""},
		{"i = 1;", "i = x.n;", "x.n = 1;", "i = x.n;", "b", ""},
		{"i = x.n;", "i = x.n;", "x.n = 1;", "i = x.n;", "a", ""},
		{"i = x.n;", "i = x.n;", "x.n = 1;", "x.n = 1;", "a", ""},
		{"i = 1;", "y.n = 1;", "x.n = 1;", "i = x.n;", "e", ""},
		{"i = y.n;", "i = y.n;", "x.n = 1;", "i = x.n;", "e", ""},
	} {
		text := strings.NewReplacer("A #", x.a+" #", "B #", x.b+" #", "E #", x.e+" #", "F #", x.f+" #").Replace(text)
		checkRun(t, text, start(), example{nil, race(x.first), "0:m 1:left 2:right", []int{1, 2, 3}, 2})
		if x.second != "" { // the threads 3 and 4 do e and f
			checkRun(t, text, start(), example{[]int{0, 1}, race(x.second), "0:m 2:right 1:left", []int{1, 2, 3}, 2})
		}
	}
}
