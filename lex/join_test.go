package lex_test

import (
	"slices"
	"strings"
	"testing"

	"sepal/api"
	"sepal/lex"
)

func allSymbols() []string {
	return strings.Fields("==> -> == != <= && || { } ( ) ; , : . = < ! & + - *")
}

func allKeywords() []string {
	return strings.Fields(`record global lock invariant predicate lemma procedure returns logical requires ensures exists
		emp null new free input if else while assert with par int`)
}

func validTokens() []lex.Token {
	l := []lex.Token{
		word("a", 0, 0), word("Z_9", -1, -7), word("abcdefghijklmnopqrst", 1, 1), word("while", 9, 9), word("par", 1<<40, 2),
		number("0", 0, 0), number("7", 3, 3), number("1048576", -1, 1),
	}
	for i, s := range allSymbols() {
		l = append(l, symbol(s, i, -i))
	}
	return l
}

func invalidTokens() []lex.Token {
	var l []lex.Token
	for _, t := range validTokens() {
		for kind := -1; kind <= 5; kind++ {
			if kind != t.Kind {
				l = append(l, lex.Token{Kind: kind, Text: t.Text, Pos: t.Pos})
			}
		}
	}
	for _, s := range []string{"", " ", "\n", "a b", "a ", " a", "a#", "#", "# a", "_", "_a", "1a", "a-b", "a.b", "\u00e9", "a\u00e9", "\xff", "a$", "a\x00",
		"abcdefghijklmnopqrstu", strings.Repeat("a", api.MaxText+1), "00", "01", "-1", "+1", "1.5", "1_0", "0x1", "1048577", "99999999999999999999999",
		"18446744073709551617", "1 ", " 1", "1#", ">", "|", "=>", "===", ">=", "||| ", "-->", "( ", " (", "()", "&&&", "@", "/"} {
		for kind := lex.Word; kind <= lex.Symbol; kind++ {
			l = append(l, lex.Token{Kind: kind, Text: s, Pos: place(1, 1)})
		}
	}
	return l
}

func TestJoinValid(t *testing.T) {
	if s := lex.Join(nil) + lex.Join([]lex.Token{}); s != "" {
		t.Errorf("of nothing: %q", s)
	}
	for _, x := range validTokens() {
		if s := lex.Join([]lex.Token{x}); s != x.Text {
			t.Errorf("%v: %q", x, s)
		}
	}
	want := "a Z_9 abcdefghijklmnopqrst while par 0 7 1048576 ==> -> == != <= && || { } ( ) ; , : . = < ! & + - *"
	if s := lex.Join(validTokens()); s != want {
		t.Errorf("all: %q", s)
	}
	l := []lex.Token{word("x", 5, 5), symbol("=", 1, 1), symbol("=", 1, 1), number("1", 1, 1)}
	kept := slices.Clone(l)
	if s := lex.Join(l); s != "x = = 1" || !slices.Equal(l, kept) {
		t.Errorf("%q, %v", s, l)
	}
}

func TestJoinInvalid(t *testing.T) {
	for _, x := range invalidTokens() {
		a, b := word("a", 1, 1), symbol(";", 1, 2)
		for _, l := range [][]lex.Token{{x}, {x, a, b}, {a, x, b}, {a, b, x}} {
			if s := lex.Join(l); s != "" {
				t.Errorf("%.50v: %.50q", l, s)
			}
		}
	}
}

func TestJoinLong(t *testing.T) {
	l := slices.Repeat([]lex.Token{word("ab", 1, 1)}, api.MaxText)
	if s := lex.Join(l); s != strings.TrimSpace(strings.Repeat("ab ", api.MaxText)) {
		t.Errorf("%d bytes", len(s))
	}
}

func TestKeyword(t *testing.T) {
	l := allKeywords()
	if len(l) != 24 {
		t.Fatal(len(l))
	}
	for _, s := range l {
		if !lex.Keyword(s) || lex.Name(s) {
			t.Errorf("%q is a keyword and no name", s)
		}
		for _, x := range []string{strings.ToUpper(s), strings.ToUpper(s[:1]) + s[1:], s + "s", s + "_", s + "1", "x" + s} {
			if lex.Keyword(x) || !lex.Name(x) {
				t.Errorf("%q is a name and no keyword", x)
			}
		}
		for _, x := range []string{s + " ", " " + s, "_" + s, "1" + s, s + "\n", s + "-"} {
			if lex.Keyword(x) || lex.Name(x) {
				t.Errorf("%q is neither a name nor a keyword", x)
			}
		}
	}
	for _, s := range []string{"", "x", "0", "==>", "true", "or", "bool", "return", "emp null"} {
		if lex.Keyword(s) {
			t.Errorf("%q is no keyword", s)
		}
	}
}

func TestName(t *testing.T) {
	for _, s := range []string{"a", "z", "A", "Z", "Par", "next", "x_", "x_1", "x__", "abcdefghijklmnopqrst", "a1234567890123456789", "a___________________"} {
		if !lex.Name(s) {
			t.Errorf("%q is a name", s)
		}
	}
	for _, x := range invalidTokens() {
		if x.Kind == lex.Word && lex.Name(x.Text) {
			t.Errorf("%.50q is no name", x.Text)
		}
	}
	for i := range 256 {
		s := string([]byte{byte(i)})
		begins := 'a' <= i && i <= 'z' || 'A' <= i && i <= 'Z'
		follows := begins || '0' <= i && i <= '9' || i == '_'
		if lex.Name(s) != begins || lex.Name("x"+s) != follows || lex.Name("x"+s+"x") != follows {
			t.Errorf("%q", s)
		}
	}
}

func TestSymbols(t *testing.T) {
	l := lex.Symbols()
	if !slices.Equal(l, allSymbols()) {
		t.Error(l)
	}
	clear(l)
	if !slices.Equal(lex.Symbols(), allSymbols()) {
		t.Error("the results share memory")
	}
	checkTokens(t, "==>", symbol("==>", 1, 1))
}
