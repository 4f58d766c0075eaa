package parse_test

import (
	"regexp"
	"slices"
	"strings"
	"sync"
	"testing"

	"sepal/api"
	"sepal/lex"
)

// documented is the grammar of the document, except that it says which "(" begin an expression and which a condition, where both would be possible: "(e" is one whose closing parenthesis is followed by a relation, "+", or "-", "(c" is any other one, and "(" stands for both.
const documented = `
program    = { item }
item       = "record" name "{" { type name ";" } "}"
           / "global" type name ";"
           / "lock" name "invariant" assertion ";"
           / "predicate" name "(" params ")" "=" assertion ";"
           / "lemma" name "(" [ params ] ")" ":" formula "==>" formula ";"
           / "procedure" name "(" [ params ] ")" [ "returns" "(" type name ")" ]
             [ [ "logical" "(" params ")" ] "requires" assertion "ensures" assertion ]
             "{" { type name ";" } { statement } "}"
type       = "int" / name
params     = type name { "," type name }
assertion  = formula { "||" formula }
formula    = [ "exists" params ":" ] part { "&" part }
part       = "emp" / name "(" exprs ")" / expr relation expr / expr "->" name "(" exprs ")"
relation   = "==" / "!=" / "<=" / "<"
exprs      = expr { "," expr }
expr       = term { ( "+" / "-" ) term }
term       = [ "-" ] number [ "*" term ] / name / "null" / "(" expr ")"
condition  = and { "||" and }
and        = not { "&&" not }
not        = "!" not / "(c" condition ")" / operand relation expr
operand    = first { ( "+" / "-" ) term }
first      = [ "-" ] number [ "*" term ] / name / "null" / "(e" expr ")"
statement  = name "=" ( "new" name / "input" / name "." name / call / expr ) ";"
           / name "." name "=" expr ";"
           / call ";"
           / "free" name ";"
           / "if" "(" condition ")" block [ "else" block ]
           / "while" "(" condition ")" [ "invariant" assertion ] block
           / "assert" condition ";"
           / "with" name block
           / "par" "{" result ";" "}" "{" result ";" "}"
call       = name "(" [ exprs ] ")"
result     = [ name "=" ] call
block      = "{" { statement } "}"
`

// A rule is a terminal (op 't'), the name of a rule ('n'), a sequence ('s'), a choice ('/'), or what may be missing ('[') or repeated ('{').
type rule struct {
	op   byte
	text string
	l    []*rule
}

type grammar map[string]*rule

func readGrammar(text string) grammar {
	g := grammar{}
	words := regexp.MustCompile(`"[^"]*"|[a-z]+|\S`).FindAllString(text, -1)
	at := 0
	var choice func() *rule
	single := func() *rule {
		w := words[at]
		at++
		if strings.Contains("([{", w) {
			inner := choice()
			at++
			if w == "(" {
				return inner
			}
			return &rule{op: w[0], l: []*rule{inner}}
		}
		if w[0] == '"' {
			return &rule{op: 't', text: strings.Trim(w, `"`)}
		}
		if w == "name" || w == "number" {
			return &rule{op: 't', text: w}
		}
		return &rule{op: 'n', text: w}
	}
	sequence := func() *rule {
		s := &rule{op: 's'}
		for at < len(words) && !slices.Contains([]string{")", "]", "}", "/"}, words[at]) && (at+1 == len(words) || words[at+1] != "=") {
			s.l = append(s.l, single())
		}
		return s
	}
	choice = func() *rule {
		c := &rule{op: '/', l: []*rule{sequence()}}
		for at < len(words) && words[at] == "/" {
			at++
			c.l = append(c.l, sequence())
		}
		return c
	}
	for at < len(words) {
		name := words[at]
		at += 2
		g[name] = choice()
	}
	return g
}

// A stack of rules is what still has to come.
type stack struct {
	top  *rule
	rest *stack
}

func push(l []*rule, s *stack) *stack {
	for _, x := range slices.Backward(l) {
		s = &stack{x, s}
	}
	return s
}

// expand visits all stacks with a terminal on top to which s can be rewritten, and nil if nothing has to come.
func (g grammar) expand(s *stack, visit func(*stack)) {
	if s == nil || s.top.op == 't' {
		visit(s)
		return
	}
	switch s.top.op {
	case 'n':
		g.expand(&stack{g[s.top.text], s.rest}, visit)
	case 's':
		g.expand(push(s.top.l, s.rest), visit)
	case '/':
		for _, x := range s.top.l {
			g.expand(&stack{x, s.rest}, visit)
		}
	case '[':
		g.expand(s.rest, visit)
		g.expand(push(s.top.l, s.rest), visit)
	case '{':
		g.expand(s.rest, visit)
		g.expand(push(s.top.l, s), visit)
	}
}

func (g grammar) start(name string) []*stack {
	return g.expandAll([]*stack{{&rule{op: 'n', text: name}, nil}})
}

func (g grammar) expandAll(l []*stack) []*stack {
	var r []*stack
	for _, s := range l {
		g.expand(s, func(s *stack) { r = append(r, s) })
	}
	return r
}

// step takes a token of this class; nothing is left if it does not fit.
func (g grammar) step(l []*stack, class string) []*stack {
	var r []*stack
	for _, s := range l {
		if s != nil && (s.top.text == class || s.top.text == "(" && class[0] == '(') {
			r = append(r, s.rest)
		}
	}
	return g.expandAll(r)
}

// classes returns the terminals of tokens.
func classes(texts []string) []string {
	l := slices.Clone(texts)
	for i, s := range texts {
		switch {
		case s == "(":
			l[i] = "(c"
			if end := closingOf(texts, i); end+1 < len(texts) && end >= 0 && slices.Contains([]string{"==", "!=", "<=", "<", "+", "-"}, texts[end+1]) {
				l[i] = "(e"
			}
		case isName(s):
			l[i] = "name"
		case '0' <= s[0] && s[0] <= '9':
			l[i] = "number"
		}
	}
	return l
}

const keywords = " record global lock invariant predicate lemma procedure returns logical requires ensures exists emp null new free input if else while assert with par int "

func isName(s string) bool {
	letter := s[0] | 0x20
	return 'a' <= letter && letter <= 'z' && !strings.Contains(keywords, " "+s+" ")
}

func closingOf(texts []string, i int) int {
	depth := 0
	for ; i < len(texts); i++ {
		switch texts[i] {
		case "(":
			depth++
		case ")":
			if depth--; depth == 0 {
				return i
			}
		}
	}
	return -1
}

// judge returns the index of the first token that does not fit and ErrForm; or -1, and OK or ErrEnd.
func (g grammar) judge(name string, texts []string) (int, api.Errno) {
	l := g.start(name)
	for i, c := range classes(texts) {
		if l = g.step(l, c); len(l) == 0 {
			return i, api.ErrForm
		}
	}
	if slices.Contains(l, nil) {
		return -1, api.OK
	}
	return -1, api.ErrEnd
}

// checkJudged demands what the grammar says about these tokens, which stand in lines of their own.
func (g grammar) checkJudged(t *testing.T, name string, texts []string) (int, api.Errno) {
	t.Helper()
	at, e := g.judge(name, texts)
	want := api.Pos{}
	if at >= 0 {
		want = api.Pos{Line: at + 1, Column: 1}
	}
	place, got := parseAs(name, strings.Join(texts, "\n"))
	if place != want || got != e && (e != api.OK || got != api.ErrFull) {
		t.Errorf("%s: %q: %v, %d, want %v, %d", name, texts, place, got, want, e)
	}
	return at, e
}

// sequences checks all sequences of at most n of these tokens after a beginning, as long as all but the last one fit. (A token fits or not whatever comes behind it, except for "(" in conditions.)
func (g grammar) sequences(t *testing.T, name, begin string, n int, tokens string) {
	t.Helper()
	counts := map[api.Errno]int{}
	var extend func([]string, int)
	extend = func(l []string, n int) {
		at, e := g.checkJudged(t, name, l)
		counts[e]++
		if n == 0 || at >= 0 {
			return
		}
		for _, x := range strings.Fields(tokens) {
			extend(append(slices.Clip(l), x), n-1)
		}
	}
	extend(strings.Fields(begin), n)
	if counts[api.ErrEnd] < 1 || counts[api.ErrForm] < 10 || n > 4 && counts[api.OK] < 5 {
		t.Error(name, begin, counts)
	}
}

func TestSequencesOfTokens(t *testing.T) {
	g := readGrammar(documented)
	if len(g) != 20 {
		t.Fatal(len(g))
	}
	g.sequences(t, "expr", "", 6, "a if 7 null + - * ( ) , < .")
	g.sequences(t, "assertion", "", 5, "a 7 null emp exists int - ( ) , < == -> & : || && !")
	g.sequences(t, "assertion", "exists R a :", 5, "a 7 emp exists - * ( ) , < -> & || ! {")
	g.sequences(t, "assertion", "exists", 6, "a int 7 , : ( emp & ||")
	g.sequences(t, "assertion", "a -> R (", 4, "a 7 null emp ( ) , -> < + & ||")
	g.sequences(t, "assertion", "( a ) ", 4, "a 7 -> != ( ) , + & || &&")
	body := "procedure p ( ) { "
	g.sequences(t, "program", body, 4, "a 7 null int = . ( ) , ; { } new input free with par if while assert else invariant")
	for _, x := range []string{"a", "int", "a =", "a = a", "a .", "a (", "a = new", "a = input", "a = a .", "a = a (", "free", "with a", "with a {", "a b", "a b ; a", "a . b = a", "a = 7 ; a"} {
		g.sequences(t, "program", body+x, 4, "a 7 null int = . ( ) , ; { } new free - +")
	}
	for _, x := range []string{"par", "par {", "par { a ( ) ; } ", "par { a = b", "par { a = b ( ) ; } { c", "par { a ( ) ; } { b (", "par { a = b ( ) ; } { b ( ) ;"} {
		g.sequences(t, "program", body+x, 4, "a 7 = . ( ) , ; { } new par")
	}
	for _, x := range []string{"if ( a < b", "while ( a < b", "assert a < b", "if ( a < b ) {", "while ( a < b ) {", "while ( a < b ) invariant emp", "while ( a < b ) invariant a", "if ( a < b ) { } else"} {
		g.sequences(t, "program", body+x, 4, "a 7 = ) , ; { } else invariant emp & && ||")
	}
	for _, x := range []string{"", "record", "record R {", "global", "lock", "lock L invariant", "predicate", "predicate P ( int a", "predicate P ( int a ) =", "record R { int", "record R { int a ; }", "global R"} {
		g.sequences(t, "program", x, 4, "a 7 int emp = , ; : ( ) { } & || invariant record global lock predicate")
	}
	for _, x := range []string{"lemma", "lemma A (", "lemma A ( a a", "lemma A ( ) :", "lemma A ( ) : emp", "lemma A ( ) : emp ==> emp"} {
		g.sequences(t, "program", x, 4, "a int emp , ; : ( ) & || ==> == exists lemma")
	}
	for _, x := range []string{"procedure", "procedure p (", "procedure p ( int a", "procedure p ( )", "procedure p ( ) returns", "procedure p ( ) returns ( R", "procedure p ( ) logical",
		"procedure p ( ) logical ( int a", "procedure p ( ) logical ( int a )", "procedure p ( ) requires emp", "procedure p ( ) requires emp || emp ensures", "procedure p ( ) returns ( int a ) logical ( int b ) requires emp"} {
		g.sequences(t, "program", x, 4, "a int emp , ; ( ) { } || returns logical requires ensures invariant procedure")
	}
}

// TestConditionsOfTokens looks at all sequences: whether "(" begins an expression is only known behind its end.
func TestConditionsOfTokens(t *testing.T) {
	g := readGrammar(documented)
	counts := map[api.Errno]int{}
	var extend func([]string, []string, int)
	extend = func(l, tokens []string, n int) {
		_, e := g.checkJudged(t, "condition", l)
		counts[e]++
		if n > 0 {
			for _, x := range tokens {
				extend(append(slices.Clip(l), x), tokens, n-1)
			}
		}
	}
	extend(nil, strings.Fields("a ( ) <= + ! &&"), 6)
	extend(nil, strings.Fields("a 7 null ( ) == != < <= - + * ! && || & ,"), 4)
	for _, s := range []string{"( ( a )", "( ( a ) < b", "( a < b", "! ( a", "a < b || ( a", "( a + ( b )", "( a < ( b )", "( ( ( a ) ) )"} {
		extend(strings.Fields(s), strings.Fields("a ( ) < - || && ->"), 4)
	}
	if counts[api.OK] < 100 || counts[api.ErrEnd] < 500 || counts[api.ErrForm] < 10000 {
		t.Error(counts)
	}
}

// TestPrefixesOfPrograms puts each token behind each beginning of a program that has everything, and changes each of its tokens.
func TestPrefixesOfPrograms(t *testing.T) {
	g := readGrammar(documented)
	tokens, _, e := lex.Split(everything)
	if e != api.OK {
		t.Fatal(e)
	}
	var texts []string
	for _, x := range tokens {
		texts = append(texts, x.Text)
	}
	others := append(lex.Symbols(), strings.Fields("x 5"+keywords)...)
	few := strings.Fields("x 5 ( ) ; int == ||")
	var all sync.WaitGroup
	for i := range texts {
		all.Go(func() {
			g.checkJudged(t, "program", texts[:i])
			for _, x := range others {
				g.checkJudged(t, "program", append(slices.Clip(texts[:i]), x))
			}
			for _, x := range few {
				changed := slices.Clone(texts)
				changed[i] = x
				g.checkJudged(t, "program", changed)
			}
			g.checkJudged(t, "program", slices.Delete(slices.Clone(texts), i, i+1))
			g.checkJudged(t, "program", slices.Insert(slices.Clone(texts), i, texts[i]))
		})
	}
	all.Wait()
	g.checkJudged(t, "program", texts)
}
