package tree_test

import (
	"math/rand"
	"reflect"
	"slices"
	"strings"
	"testing"

	"sepal/api"
	"sepal/tree"
)

func TestVars(t *testing.T) {
	for _, c := range []struct {
		e    api.Expr
		want string
	}{
		{variable("x"), "x"},
		{num(1), ""},
		{null(), ""},
		{mul(2, add(variable("x"), variable("y"))), "x y"},
		{add(sub(variable("y"), variable("x")), mul(3, variable("y"))), "x y"},
		{add(add(variable("b"), variable("$b")), add(variable("a"), add(variable("B"), variable("a1")))), "$b B a a1 b"},
		{api.Expr{}, ""},
		{api.Expr{Kind: api.Num, Name: "x"}, ""},
		{api.Expr{Kind: 99, Name: "x", L: []api.Expr{variable("z"), {Kind: -1, L: []api.Expr{variable("a")}}, {Kind: api.Null, L: []api.Expr{variable("m")}}}}, "a m z"},
		{api.Expr{Kind: api.Var, Name: "x", N: 2, L: []api.Expr{variable("y"), variable("a")}}, "a x y"},
		{variable("free"), "free"},
		{variable("2x"), "2x"},
	} {
		if l := tree.Vars(c.e); !slices.Equal(l, strings.Fields(c.want)) {
			t.Errorf("%v: %q, want %q", c.e, l, c.want)
		}
	}
	if l := tree.Vars(add(variable(""), variable("x"))); !slices.Equal(l, []string{"", "x"}) {
		t.Errorf("%q", l)
	}
	for i, e := range deepExprs(veryDeep) {
		if l := tree.Vars(e); len(l) > 2 {
			t.Error(i, l)
		}
	}
}

func TestVarsAreSorted(t *testing.T) {
	order := rand.New(rand.NewSource(1))
	for range 100 {
		e := num(1)
		l := names(40)
		for _, i := range order.Perm(80) {
			e = add(e, variable(l[i%40]))
		}
		slices.Sort(l)
		if got := tree.Vars(e); !slices.Equal(got, l) {
			t.Fatal(got)
		}
	}
}

// flat returns the statements of a list in the order of their text.
func flat(l []api.Stmt) []api.Stmt {
	var all []api.Stmt
	for _, s := range l {
		all = append(all, s)
		all = append(all, flat(s.Body)...)
		all = append(all, flat(s.Else)...)
	}
	return all
}

// walked returns what is yielded, up to a statement with this number, behind which it leaves.
func walked(t *testing.T, l []api.Stmt, last int) []api.Stmt {
	t.Helper()
	var all []api.Stmt
	for n, s := range tree.Walk(l) {
		if n != len(all) {
			t.Fatal("number", n, "instead of", len(all))
		}
		all = append(all, s)
		if n == last {
			break
		}
	}
	return all
}

// someLists are lists of statements, many of them not valid.
func someLists() [][]api.Stmt {
	odd := func(kind int, body, other []api.Stmt) api.Stmt {
		return api.Stmt{Kind: kind, Pos: api.Pos{Line: -kind}, Body: body, Else: other}
	}
	leaf := func(kind int) []api.Stmt { return []api.Stmt{odd(kind, nil, nil), {}} }
	return append(deepStmts(6), nil, []api.Stmt{}, richStmts(), richProgram().Procs[1].Body,
		[]api.Stmt{{}, {Kind: -1}},
		[]api.Stmt{odd(99, leaf(100), leaf(101)), odd(api.Assign, leaf(102), nil), odd(api.While, nil, leaf(103)), odd(0, []api.Stmt{odd(104, leaf(105), leaf(106))}, []api.Stmt{odd(107, leaf(108), leaf(109))})},
		filled[[]api.Stmt](4), deepStmts(tooDeep + 40)[2], slices.Repeat(richStmts(), 3))
}

func TestWalk(t *testing.T) {
	for i, l := range someLists() {
		want := flat(l)
		if got := walked(t, l, -1); !reflect.DeepEqual(got, want) {
			t.Errorf("%d: %v, want %v", i, got, want)
		}
	}
}

func TestWalkExample(t *testing.T) {
	assign := func(name string) api.Stmt { return api.Stmt{Kind: api.Assign, Name: name, E: num(1)} }
	l := []api.Stmt{{Kind: api.While, C: richCond(), Body: []api.Stmt{assign("x")}}, assign("y"),
		{Kind: api.If, Body: []api.Stmt{assign("a"), {Kind: api.If, Name: "b", Else: []api.Stmt{assign("c")}}, assign("d")}, Else: []api.Stmt{assign("e")}}, assign("f")}
	var got []string
	for n, s := range tree.Walk(l) {
		got = append(got, string(rune('0'+n))+s.Name)
	}
	if text := strings.Join(got, " "); text != "0 1x 2y 3 4a 5b 6c 7d 8e 9f" {
		t.Error(text)
	}
}

func TestWalkIsLeftEarly(t *testing.T) {
	for i, l := range someLists() {
		want := flat(l)
		for n := range want {
			if got := walked(t, l, n); !reflect.DeepEqual(got, want[:n+1]) {
				t.Fatalf("%d: %d statements up to %d", i, len(got), n)
			}
			calls := 0
			tree.Walk(l)(func(int, api.Stmt) bool {
				calls++
				return calls <= n
			})
			if calls != n+1 {
				t.Fatalf("%d: %d calls, though left at %d", i, calls, n)
			}
		}
	}
}

func TestWalkAgain(t *testing.T) {
	l := richStmts()
	seq := tree.Walk(l)
	for range seq {
		break
	}
	for n, s := range seq {
		inner := 0
		for m, x := range seq {
			if m != inner || m == n && !reflect.DeepEqual(s, x) {
				t.Fatal(n, m)
			}
			inner++
		}
		if inner != len(flat(l)) {
			t.Fatal(inner)
		}
	}
}

// wreck changes everything in a statement.
func wreck(s api.Stmt) {
	parts(&s, func(path string, v reflect.Value) {
		switch v.Kind() {
		case reflect.Int:
			v.SetInt(-77)
		case reflect.String:
			v.SetString("wreck")
		}
	})
	for i := range s.Body {
		s.Body[i] = api.Stmt{Body: []api.Stmt{{}, {}}}
	}
	clear(s.Else)
}

func TestWalkSharesNothing(t *testing.T) {
	for _, l := range append(deepStmts(api.MaxDepth), richStmts(), filled[[]api.Stmt](3)) {
		before := deepCopy(l)
		seq := tree.Walk(l)
		for range 2 {
			n := 0
			for _, s := range seq {
				if want := flat(before)[n]; !reflect.DeepEqual(s, want) {
					t.Fatalf("%d: %v, want %v", n, s, want)
				}
				wreck(s)
				n++
			}
			if !reflect.DeepEqual(l, before) {
				t.Fatal("the list has changed")
			}
		}
		for _, s := range l {
			wreck(s)
		}
		clear(l)
		n := 0
		for _, s := range seq {
			if !reflect.DeepEqual(s, flat(before)[n]) {
				t.Fatal("the list was kept")
			}
			n++
		}
	}
}

func TestWalkVeryDeep(t *testing.T) {
	for i, l := range deepStmts(veryDeep) {
		if tree.Size(api.Program{Procs: []api.Proc{{Body: l}}}) != 2*veryDeep-1 {
			t.Error(i, "size")
		}
	}
	n := 0
	for range tree.Walk(deepList(nests()[3], veryDeep)) {
		n++
	}
	if n != 2*veryDeep-1 {
		t.Error(n)
	}
}

func TestSize(t *testing.T) {
	if n := tree.Size(api.Program{}); n != 0 {
		t.Error(n)
	}
	for i, l := range someLists() {
		for j, m := range someLists() {
			p := richProgram()
			p.Procs = []api.Proc{{Body: l}, {}, {Name: "p", Contract: true, Body: m}}
			if n := tree.Size(p); n != len(flat(l))+len(flat(m)) {
				t.Error(i, j, n)
			}
		}
	}
	if n := tree.Size(richProgram()); n != 26 {
		t.Error(n)
	}
}
