package lex_test

import (
	"slices"
	"testing"

	"woodcut/lex"
	"woodcut/token"
)

func text(s string) token.Token { return token.Token{Kind: token.Text, Data: s} }

func comment(s string) token.Token { return token.Token{Kind: token.Comment, Data: s} }

func end(name string) token.Token { return token.Token{Kind: token.End, Name: name} }

// start is a start tag with attributes of names and values, in turn.
func start(name string, words ...string) token.Token {
	t := token.Token{Kind: token.Start, Name: name}
	for i := 0; i+1 < len(words); i += 2 {
		t.Attrs = append(t.Attrs, token.Attr{Name: words[i], Val: words[i+1]})
	}
	return t
}

func self(t token.Token) token.Token {
	t.Self = true
	return t
}

func doctype(name string) token.Token { return token.Token{Kind: token.Doctype, Name: name} }

func public(t token.Token, s string) token.Token {
	t.Public, t.HasPub = s, true
	return t
}

func system(t token.Token, s string) token.Token {
	t.System, t.HasSys = s, true
	return t
}

func quirks(t token.Token) token.Token {
	t.Quirks = true
	return t
}

func list(ts ...token.Token) []token.Token { return ts }

func same(a, b []token.Token) bool { return slices.EqualFunc(a, b, token.Token.Same) }

// read is all tokens of a lexer, texts joined.
func read(l *lex.Lexer) []token.Token { return token.Join(slices.Collect(l.Tokens())) }

// in is a lexer of a text that reads it in a way.
func in(s string, way int, name string) *lex.Lexer {
	l := lex.New([]byte(s))
	l.Way(way, name)
	return l
}

type reading struct {
	in   string
	want []token.Token
}

// check asks All for the tokens of each text.
func check(t *testing.T, cases []reading) {
	t.Helper()
	for _, c := range cases {
		if got := lex.All([]byte(c.in)); !same(got, c.want) {
			t.Errorf("%q:\n got %+v\nwant %+v", c.in, got, c.want)
		}
	}
}
