package term_test

import (
	"slices"
	"testing"

	"sepal/api"
	"sepal/term"
)

// bindings returns the bindings of a text like that of a linear expression.
func bindings(text string) []api.Binding {
	var s []api.Binding
	for _, f := range lin(text).L {
		s = append(s, api.Binding{Name: f.Name, Value: f.N})
	}
	return s
}

func TestEval(t *testing.T) {
	for _, c := range []struct {
		a, s string
		want int
		ok   bool
	}{
		{"2 x -1 y 3", "10 x -4 y", 27, true}, {"1 y 5 z -1", "10 x -4 y", 0, false}, {"0", "", 0, true}, {"-7", "", -7, true}, {"-7", "1 x", -7, true}, {"1 x", "", 0, false}, {"1 x 5", "0 x", 5, true}, {"1 x", "-3 x", -3, true}, {"-2 x", "-3 x", 6, true}, {"2 x -3 y", "3 x 2 y", 0, true},
		// The order of the bindings does not matter, but for those of one name.
		{"2 x -1 y 3", "-4 y 10 x", 27, true}, {"1 x", "1 y 2 x 3 z", 2, true}, {"1 x", "1 x 2 x", 1, true}, {"1 x", "2 x 1 x", 2, true}, {"1 x", "5 y 2 x 6 y 1 x", 2, true}, {"1 x 10 y", "1 x 2 y 3 x 4 y", 21, true}, {"1 x", "1 X 2 xx 3 x", 3, true}, {"1 x", "1 X 2 xx", 0, false},
		{"1 x 1 y", "1 x", 0, false}, {"1 x 1 y", "1 y", 0, false}, {"1 x 1 y", "1 y 1 z", 0, false},
	} {
		if n, ok := term.Eval(lin(c.a), bindings(c.s)); n != c.want || ok != c.ok {
			t.Error(c.a, "in", c.s, n, ok)
		}
	}
	if n, ok := term.Eval(lin("1 x"), []api.Binding{{Name: "", Value: 3}, {Name: "x", Value: 4}}); n != 4 || !ok {
		t.Error("a binding without a name", n, ok)
	}
}

// TestEvalBig demands the range of values, products, and sums of the first factors.
func TestEvalBig(t *testing.T) {
	const half = most / 2
	for i, c := range []struct {
		c    int
		n, v []int
		want int
		ok   bool
	}{
		{most, nil, nil, most, true}, {-most, nil, nil, -most, true},
		{0, []int{1}, []int{most}, most, true}, {0, []int{-1}, []int{most}, -most, true}, {0, []int{1}, []int{-most}, -most, true}, {0, []int{1}, []int{most + 1}, 0, false}, {0, []int{1}, []int{-most - 1}, 0, false}, {-1, []int{1}, []int{most + 1}, 0, false}, {most, []int{-1}, []int{most + 1}, 0, false},
		{0, []int{1}, []int{huge}, 0, false}, {0, []int{1}, []int{low}, 0, false}, {0, []int{-1}, []int{low}, 0, false}, {0, []int{2}, []int{low}, 0, false}, {most, []int{most}, []int{low}, 0, false}, {0, []int{4}, []int{1 << 62}, 0, false},
		{0, []int{2}, []int{half}, most, true}, {0, []int{2}, []int{half + 1}, 0, false}, {0, []int{-2}, []int{half + 1}, 0, false}, {0, []int{half}, []int{-2}, -most, true}, {-2, []int{2}, []int{half + 1}, 0, false}, {0, []int{1 << 32}, []int{1 << 32}, 0, false}, {0, []int{most}, []int{most}, 0, false}, {0, []int{most}, []int{1}, most, true}, {0, []int{most}, []int{0}, 0, true},
		{1, []int{1}, []int{most}, 0, false}, {-1, []int{1}, []int{most}, most - 1, true}, {most, []int{1}, []int{1}, 0, false}, {most, []int{1}, []int{-1}, most - 1, true}, {-most, []int{1}, []int{-1}, 0, false}, {-most, []int{1}, []int{most}, 0, true},
		// The sums of the first factors count, although the value is in range.
		{most, []int{1, 1}, []int{1, -1}, 0, false}, {most, []int{1, 1}, []int{-1, 1}, most, true}, {0, []int{1, 1, 1}, []int{most, 1, -1}, 0, false}, {0, []int{1, 1, 1}, []int{most, -1, 1}, most, true}, {0, []int{1, 1, 1}, []int{1, most, -1}, 0, false}, {-1, []int{1, 1, 1}, []int{1, most, -1}, most - 1, true}, {-most, []int{1, 1}, []int{-1, 1}, 0, false}, {-most, []int{2, 1}, []int{half, most}, most, true}, {most, []int{2, 2}, []int{-most, most}, 0, false},
		// One name has a value that is too big, and the other ones do not.
		{0, []int{1, 1}, []int{1, most + 1}, 0, false}, {0, []int{1, 1}, []int{most + 1, -1}, 0, false},
	} {
		a := api.Linear{C: c.c}
		var s []api.Binding
		for j, n := range c.n {
			a.L = append(a.L, api.Factor{Name: name(j), N: n})
			s = append(s, api.Binding{Name: name(j), Value: c.v[j]})
		}
		if n, ok := term.Eval(a, s); n != c.want || ok != c.ok {
			t.Error(i, n, ok)
		}
		// Values of names that do not occur, and of bindings that are not the first, do not count.
		more := slices.Concat([]api.Binding{{Name: "other", Value: huge}, {Name: "", Value: low}}, s, []api.Binding{{Name: name(0), Value: low}, {Name: "more", Value: most + 1}})
		if len(s) > 0 {
			if n, ok := term.Eval(a, more); n != c.want || ok != c.ok {
				t.Error(i, "with more bindings", n, ok)
			}
		}
	}
}

func TestEvalMany(t *testing.T) {
	a := long(5, api.MaxList)
	var s []api.Binding
	want := 5
	for i, f := range a.L {
		s = append(s, api.Binding{Name: f.Name, Value: i - 3})
		want += f.N * (i - 3)
	}
	if n, ok := term.Eval(a, s); n != want || !ok {
		t.Error(n, ok)
	}
	if n, ok := term.Eval(a, s[:api.MaxList-1]); n != 0 || ok {
		t.Error(n, ok)
	}
	for _, w := range wrong() {
		s := []api.Binding{}
		for _, f := range w.L {
			s = append(s, api.Binding{Name: f.Name})
		}
		if n, ok := term.Eval(w, s); n != 0 || ok {
			t.Error(text(w), n, ok)
		}
	}
}

func TestGcd(t *testing.T) {
	for _, c := range []struct {
		a    string
		want int
	}{
		{"6 x -9 y 12 z 3", 3}, {"0", 0}, {"3", 0}, {"-6", 0}, {"1 x", 1}, {"-1 x", 1}, {"5 x", 5}, {"-5 x", 5}, {"5 x 7", 5}, {"4 x 6 y", 2}, {"6 x 4 y", 2}, {"4 x 8 y", 4}, {"8 x 4 y 1", 4}, {"-4 x -6 y", 2}, {"-4 x 6 y 1", 2}, {"3 x 5 y", 1}, {"6 x 10 y 15 z", 1}, {"12 x 18 y 24 z", 6}, {"7 x 7 y -7 z", 7}, {"0 y", 0}, {"4 y 4 x", 0},
		{"1125899906842624 x", most}, {"-1125899906842624 x 1125899906842624 y", most}, {"1125899906842624 x 3 y", 1}, {"1125899906842624 x 1048576 y", 1 << 20}, {"1125899906842623 x 1125899906842622 y", 1}, {"210 a 330 b 462 c 770 d", 2}, {"210 a 330 b 462 c 770 d 1155 e", 1}, {"433494437 x 701408733 y", 1},
	} {
		if n := term.Gcd(lin(c.a)); n != c.want {
			t.Error(c.a, n)
		}
	}
	for _, w := range wrong() {
		if n := term.Gcd(w); n != 0 {
			t.Error(text(w), n)
		}
	}
}
