package term_test

import (
	"testing"

	"sepal/api"
	"sepal/term"
)

// right returns linear expressions that are valid, no two of them equal.
func right() []api.Linear {
	return []api.Linear{
		{}, lin("1"), lin("-1"), {C: most}, {C: -most},
		lin("1 x"), lin("-1 x"), lin("1 x 1"), lin("1 x -1"), lin("1 y"), lin("2 x"), lin("1 x 1 y"), lin("1 x 1 z"), lin("1 x 2 y"), lin("1 x 1 y 1 z 3"),
		{L: []api.Factor{{Name: "x", N: most}}}, {L: []api.Factor{{Name: "x", N: -most}}},
		{C: -most, L: []api.Factor{{Name: "x", N: most}, {Name: "y", N: -most}}},
		// Names in the order of their bytes; any text is a name, unless it is empty.
		lin("1 $a 1 B 1 a"), lin("1 X 1 x"), lin("1 x 1 x1"), lin("1 x10 1 x2"), lin("1 z 1 é"), lin("1 B 1 B_ 1 b"), lin("1 ++ 1 12"),
		{L: []api.Factor{{Name: "\x00", N: 1}, {Name: "\x00\x00", N: 1}, {Name: " ", N: 1}, {Name: "\xff", N: 1}}},
		{L: []api.Factor{{Name: "a name that is longer than others, and has spaces", N: 1}}},
		long(0, api.MaxList-1), long(0, api.MaxList), long(most, api.MaxList),
	}
}

func TestValid(t *testing.T) {
	for _, l := range right() {
		if !term.Valid(l) {
			t.Error(text(l), "is valid")
		}
	}
	for _, l := range wrong() {
		if term.Valid(l) {
			t.Error(text(l), "is not valid")
		}
	}
	if !term.Valid(api.Linear{L: []api.Factor{}}) {
		t.Error("an empty list")
	}
}

// TestEqual demands that lists, valid or not, are equal to themselves alone.
func TestEqual(t *testing.T) {
	l, same := append(right(), wrong()...), append(right(), wrong()...)
	for i, a := range l {
		for j, b := range same {
			if term.Equal(a, b) != (i == j) {
				t.Error(text(a), "and", text(b))
			}
		}
	}
	if !term.Equal(api.Linear{C: 1, L: []api.Factor{}}, api.Linear{C: 1}) || !term.Equal(api.Linear{C: 1}, api.Linear{C: 1, L: []api.Factor{}}) {
		t.Error("nil and empty lists")
	}
}
