package parse

import (
	"sepal/api"
	"sepal/lex"
)

// A parser has the tokens of a text and the index of the next one. Its methods take what they are named after.
// After the first failure it finds no token anymore, so that all methods come to their ends without asking whether the others failed.
type parser struct {
	tokens  []lex.Token
	at      int
	closing []int
	place   api.Pos
	failed  api.Errno
}

// closing returns for each "(" the index of the ")" that closes it; 0 if none does, and for all other tokens.
func closing(tokens []lex.Token) []int {
	l := make([]int, len(tokens))
	var open []int
	for i, t := range tokens {
		switch {
		case t.Text == "(":
			open = append(open, i)
		case t.Text == ")" && len(open) > 0:
			last := len(open) - 1
			l[open[last]] = i
			open = open[:last]
		}
	}
	return l
}

// fail says that the next token does not fit.
func (p *parser) fail() {
	if p.failed != api.OK {
		return
	}
	p.failed = api.ErrEnd
	if p.at < len(p.tokens) {
		p.failed = api.ErrForm
		p.place = p.tokens[p.at].Pos
	}
}

// token returns the token with this index; none behind the end, or after a failure.
func (p *parser) token(i int) lex.Token {
	if i >= len(p.tokens) || p.failed != api.OK {
		return lex.Token{}
	}
	return p.tokens[i]
}

// next returns the token that comes next.
func (p *parser) next() lex.Token {
	return p.token(p.at)
}

// begins reports whether a name comes next that is followed by this symbol.
func (p *parser) begins(symbol string) bool {
	return isName(p.next()) && p.token(p.at+1).Text == symbol
}

func isName(t lex.Token) bool {
	return t.Kind == lex.Word && !lex.Keyword(t.Text)
}

// take takes this keyword or symbol, if it comes next.
func (p *parser) take(text string) bool {
	if p.next().Text != text {
		return false
	}
	p.at++
	return true
}

func (p *parser) expect(text string) {
	if !p.take(text) {
		p.fail()
	}
}

func (p *parser) name() string {
	t := p.next()
	if !isName(t) {
		p.fail()
		return ""
	}
	p.at++
	return t.Text
}

// operator takes a symbol that is an operator of a kind; it returns 0 if none comes next.
func (p *parser) operator(kindOf func(string) int) int {
	kind := kindOf(p.next().Text)
	if kind != 0 {
		p.at++
	}
	return kind
}

// separated takes one or more items with this symbol between them.
func separated[T any](p *parser, symbol string, item func() T) []T {
	l := []T{item()}
	for p.take(symbol) {
		l = append(l, item())
	}
	return l
}

// until takes items up to this symbol.
func until[T any](p *parser, symbol string, item func() T) []T {
	var l []T
	for p.failed == api.OK && !p.take(symbol) {
		l = append(l, item())
	}
	return l
}

// parenthesized takes a list in parentheses that may be empty.
func parenthesized[T any](p *parser, list func() []T) []T {
	p.expect("(")
	if p.take(")") {
		return nil
	}
	l := list()
	p.expect(")")
	return l
}
