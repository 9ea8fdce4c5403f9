package lex

import (
	"woodcut/token"
)

// readDoctype reads a doctype behind that word.
func (l *Lexer) readDoctype() token.Token {
	t := token.Token{Kind: token.Doctype}
	l.skipBlanks()
	t.Name = named(l.until(endsWord))
	l.skipBlanks()
	switch {
	case t.Name == "":
		l.giveUp(&t)
	case l.take(">"):
	case l.takeSmall("public"):
		l.readPublic(&t)
	case l.takeSmall("system"):
		l.readSystem(&t)
	default:
		l.giveUp(&t)
	}
	return t
}

// giveUp lets a doctype be one of an old page, and goes past its end.
func (l *Lexer) giveUp(t *token.Token) {
	t.Quirks = true
	l.upTo(">")
}

// readPublic reads a doctype from its public identifier on.
func (l *Lexer) readPublic(t *token.Token) {
	var closed bool
	t.Public, t.HasPub, closed = l.readQuoted()
	if !closed {
		l.giveUp(t)
		return
	}
	l.skipBlanks()
	if !l.take(">") {
		l.readSystem(t)
	}
}

// readSystem reads a doctype from its system identifier on.
func (l *Lexer) readSystem(t *token.Token) {
	var closed bool
	t.System, t.HasSys, closed = l.readQuoted()
	if !closed {
		l.giveUp(t)
		return
	}
	l.skipBlanks()
	t.Quirks = l.ended()
	l.upTo(">")
}

// readQuoted reads a string in quotes, ahead of which blanks may stand: the string, whether there is one, and whether a quote closes it, ahead of a >.
func (l *Lexer) readQuoted() (s string, opened, closed bool) {
	l.skipBlanks()
	quote := l.peek()
	if !isQuote(quote) {
		return "", false, false
	}
	l.at++
	s = spelt(l.until(func(r rune) bool { return r == quote || r == '>' }))
	return s, true, l.take(string(quote))
}
