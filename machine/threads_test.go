package machine_test

import (
	"testing"

	"sepal/api"
)

// lockItems are procedures that the bodies of these tests call.
const lockItems = `
procedure in() { int i;
	i = 3; # in
}
procedure locked() { int i;
	with L { # lo1
		i = 3; # lo2
	}
}
procedure both() returns (int r) {
	with L { # bo1
		par { r = one(1); } { one(2); } # bo2
		r = r + 1; # bo3
	}
}
procedure one(int n) returns (int r) {
	r = 10 * n; # one
}
procedure take(int n) returns (int r) {
	r = n; # ta1
	with L { # ta2
		r = r + 1; # ta3
	}
	r = r + 10; # ta4
}
procedure none() { }
procedure bad() returns (int r) { Node t;
	r = 1; # bad1
	t = t.next; # bad2
}
procedure big(int n) returns (int r) {
	r = n + 1; # big
}
procedure forever() {
	while (0 == 0) { } # fo
}
procedure hold() {
	with L { # ho1
		with L { } # ho2
	}
}
`

func TestWith(t *testing.T) {
	checkBodies(t, []example{
		{"with L {\nr = 1; }\nr = r + 1;", from(0, 0, list), ended(2, list, "1 2 3")},
		{"with L { }\nr = 1;", from(0, 0, ""), ended(1, "", "1 2")},
		// released at the end: another With can follow, in whatever way the end is reached
		{"with L { }\nwith L {\nr = 1; }\nwith L { }", from(0, 0, ""), ended(1, "", "1 2 3 4")},
		{"with L { if (n == 0) {\nr = 1; } }\nwith L { }", from(0, 0, ""), ended(1, "", "1 1 2 3")},
		{"with L { if (n == 0) {\nr = 1; } }\nwith L { }", from(0, 1, ""), ended(0, "", "1 1 3")},
		{"with L { while (r < 2) {\nr = r + 1; } }\nwith L { }", from(0, 0, ""), ended(2, "", "1 1 2 1 2 1 3")},
		{"while (r < 2) { with L {\nr = r + 1; } }", from(0, 0, ""), ended(2, "", "1 1 2 1 1 2 1")},
		{"if (n == 0) { with L { } }\nwith L { }", from(0, 0, ""), ended(0, "", "1 1 2")},
		{"with L { in(); }\nin();", from(0, 0, ""), ended(0, "", "1 1 in 2 in")},
		{"locked();\nwith L { }\nlocked();", from(0, 0, ""), ended(0, "", "1 lo1 lo2 2 3 lo1 lo2")},
		// two locks
		{"with L { with M {\nr = 1; }\nwith M { } }\nwith M { with L { } }", from(0, 0, ""), ended(1, "", "1 1 2 3 4 4")},
		// held by the thread itself
		{"with L { with L {\nr = 1; } }", from(0, 0, list), blocked(0, list, "1")},
		{"with L { r = 4;\nwith M { with L { } } }", from(0, 0, list), blocked(4, list, "1 1 2")},
		{"with L { t = new Node;\nlocked(); }", from(0, 0, ""), blocked(0, "1:Node(0)", "1 1 2")},
		{"while (r < 2) { with L { r = r + 1;\nif (r == 2) { with L { } } } }", from(0, 0, ""), blocked(2, "", "1 1 1 2 1 1 1 2")},
		// held at the end of a run
		{"with L { r = 1;\n@t = t.next; }", from(0, 0, list), failed(api.ErrNull, 1, list, "1 1")},
	}, lockItems)
}

func TestPar(t *testing.T) {
	checkBodies(t, []example{
		{"par { i = one(1); } { j = one(2); }\nr = i + 2 * j;", from(0, 0, list), ended(50, list, "1 one one 2")},
		{"par { r = one(1); } { one(2); }", from(0, 0, ""), ended(10, "", "1 one one")},
		{"par { one(1); } { r = one(2); }", from(0, 0, ""), ended(20, "", "1 one one")},
		{"par { one(1); } { one(2); }", from(0, 0, ""), ended(0, "", "1 one one")},
		{"r = 5;\npar { none(); } { none(); }\nr = r + 1;", from(0, 0, ""), ended(6, "", "1 2 3")},
		{"par { none(); } { r = one(3); }\nr = r + 1;", from(0, 0, ""), ended(31, "", "1 one 2")},
		{"par { r = one(3); } { none(); }\nr = r + 1;", from(0, 0, ""), ended(31, "", "1 one 2")},
		{"par { none(); } { none(); }", from(0, 0, ""), ended(0, "", "1")},
		// the arguments are computed before the results are assigned
		{"i = 1; j = 2;\npar { i = one(j); } { j = one(i + j); }\nr = i + j;", from(0, 0, ""), ended(50, "", "1 1 2 one one 3")},
		// the second thread begins when the first one has ended, and the thread that waits goes on behind both
		{"par { r = take(1); } { i = take(2); }\nr = r + i;", from(0, 0, ""), ended(25, "", "1 ta1 ta2 ta3 ta4 ta1 ta2 ta3 ta4 2")},
		{"while (i < 2) { i = i + 1;\npar { none(); } { r = one(i); } }", from(0, 0, ""), ended(20, "", "1 1 2 one 1 1 2 one 1")},
		{"if (n == 0) { par { none(); } { r = one(4); } } else {\nr = 5; }\nr = r + 1;", from(0, 0, ""), ended(41, "", "1 1 one 3")},
		{"with L { par { r = one(1); } { none(); } }\nwith L { }", from(0, 0, ""), ended(10, "", "1 1 one 2")},
		// in a callee
		{"r = both();\nr = r + 1;", from(0, 0, ""), ended(12, "", "1 bo1 bo2 one one bo3 2")},
		{"par { i = both(); } { r = take(2); }\nr = r + i;", from(0, 0, ""), ended(24, "", "1 bo1 bo2 ta1 one one bo3 ta2 ta3 ta4 2")},
		// a thread waits for a lock that the thread that waits for it holds, or that is never released
		{"with L { par { r = one(1); } { i = take(2); } }", from(0, 0, ""), blocked(0, "", "1 1 one ta1")},
		{"with L {\npar { i = take(1); } { j = take(2); } }", from(0, 0, ""), blocked(0, "", "1 2 ta1 ta1")},
		{"par { hold(); } { r = take(2); }", from(0, 0, ""), blocked(0, "", "1 ho1 ta1")},
		{"par { r = take(2); } { hold(); }\nr = 1;", from(0, 0, list), blocked(0, list, "1 ta1 ta2 ta3 ta4 ho1")},
	}, lockItems)
}

// TestFailingThreads demands that both results are given together, when both threads have ended.
func TestFailingThreads(t *testing.T) {
	most := from(0, api.MaxInt, list)
	checkInCallees(t, lockItems, []inCallee{
		{example{"par { r = one(1); } { i = bad(); }", most, failed(api.ErrNull, 0, list, "1 one bad1")}, "t = t.next; # bad2"},
		{example{"par { i = bad(); } { r = one(1); }", most, failed(api.ErrNull, 0, list, "1 bad1")}, "t = t.next; # bad2"},
		{example{"par { r = one(1); } { i = big(n); }", most, limited(api.ErrBig, 0, list, "1 one")}, "r = n + 1; # big"},
		{example{"par { r = one(1); } { forever(); }", withFuel(most, 4), limited(api.ErrFull, 0, list, "1 one fo fo")}, ""},
		{example{"par { r = one(1); } { i = one(2); }", withFuel(most, 2), limited(api.ErrFull, 0, list, "1 one")}, ""},
		{example{"par { r = one(1); } { i = one(2); }", withFuel(most, 3), ended(10, list, "1 one one")}, ""},
		// an argument that is too big
		{example{"r = 3;\n@par { r = one(n + 1); } { none(); }", most, limited(api.ErrBig, 3, list, "1")}, ""},
		{example{"r = 3;\n@par { none(); } { r = one(n + 1); }", most, limited(api.ErrBig, 3, list, "1")}, ""},
		{example{"r = 3;\n@par { r = one(n - 1 + 2); } { i = one(n + 1); }", most, limited(api.ErrBig, 3, list, "1")}, ""},
	})
}

// TestNumbers demands that threads are numbered in the order of their beginning, and that the least number that can step goes first.
func TestNumbers(t *testing.T) {
	leaves := `
procedure a() { int i;
	i = 1; # a1
	i = 2; # a2
}
procedure b() { int i;
	i = 1; # b1
	i = 2; # b2
}
procedure c() { int i;
	i = 1; # c1
}
procedure d() { int i;
	with L { # d1
		i = 1; # d2
	}
}
procedure ab() { int i;
	par { a(); } { b(); } # ab1
	i = 1; # ab2
}
procedure cd() { int i;
	par { c(); } { d(); } # cd1
	i = 1; # cd2
}
procedure dd() { int i;
	i = 1; # dd1
	par { d(); } { d(); } # dd2
	i = 2; # dd3
}
procedure abcd() { int i;
	par { ab(); } { cd(); } # abcd1
	i = 1; # abcd2
}
procedure keep() { int i;
	with L { # k1
		par { a(); } { b(); } # k2
		i = 1; # k3
	}
	i = 2; # k4
}
procedure keeps() { int i;
	with L { # ks1
		par { ab(); } { ab(); } # ks2
		i = 1; # ks3
	}
	i = 2; # ks4
}
procedure late() { int i;
	par { c(); } { c(); } # la1
	with L { # la2
		i = 1; # la3
	}
	i = 2; # la4
}
procedure lates() {
	par { late(); } { late(); } # las
}
`
	for body, trace := range map[string]string{
		"par { a(); } { b(); }":       "1 a1 a2 b1 b2",
		"par { b(); } { a(); }":       "1 b1 b2 a1 a2",
		"par { ab(); } { c(); }":      "1 ab1 c1 a1 a2 b1 b2 ab2",
		"par { c(); } { ab(); }":      "1 c1 ab1 a1 a2 b1 b2 ab2",
		"par { ab(); } { cd(); }":     "1 ab1 cd1 a1 a2 b1 b2 ab2 c1 d1 d2 cd2",
		"par { abcd(); } { ab(); }":   "1 abcd1 ab1 ab1 cd1 a1 a2 b1 b2 ab2 a1 a2 b1 b2 ab2 c1 d1 d2 cd2 abcd2",
		"par { keep(); } { d(); }":    "1 k1 k2 a1 a2 b1 b2 k3 k4 d1 d2",
		"par { d(); } { keep(); }":    "1 d1 d2 k1 k2 a1 a2 b1 b2 k3 k4",
		"par { dd(); } { keep(); }":   "1 dd1 dd2 k1 k2 a1 a2 b1 b2 k3 k4 d1 d2 d1 d2 dd3",
		"par { keep(); } { keep(); }": "1 k1 k2 a1 a2 b1 b2 k3 k4 k1 k2 a1 a2 b1 b2 k3 k4",
		// the lock is free before the thread that held it goes on
		"par { late(); } { keep(); }":   "1 la1 k1 k2 c1 c1 a1 a2 b1 b2 k3 la2 la3 la4 k4",
		"par { lates(); } { keeps(); }": "1 las ks1 ks2 la1 la1 ab1 ab1 c1 c1 c1 c1 a1 a2 b1 b2 ab2 a1 a2 b1 b2 ab2 ks3 ks4 la2 la3 la4 la2 la3 la4",
	} {
		for _, after := range []string{"", "\nr = n;"} {
			end := ended(0, "", trace)
			if after != "" {
				end = ended(6, "", trace+" 2")
			}
			checkRun(t, program(body+after, leaves), from(0, 6, ""), end)
		}
	}
}
