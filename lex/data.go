package lex

import (
	"woodcut/text"
	"woodcut/token"
)

// readData reads a text up to the next markup, or the markup that comes next.
func (l *Lexer) readData() (token.Token, bool) {
	from := l.at
	for !l.ended() && !l.atMarkup() {
		l.at++
	}
	if l.at > from {
		return said(expand(l.rs[from:l.at], false))
	}
	return l.readMarkup()
}

// atMarkup tells whether a < comes next that is more than a sign.
func (l *Lexer) atMarkup() bool {
	rest := l.rs[l.at:]
	if len(rest) < 2 || rest[0] != '<' {
		return false
	}
	switch rest[1] {
	case '!', '?':
		return true
	case '/':
		return len(rest) > 2
	}
	return text.Letter(rest[1])
}

func (l *Lexer) readMarkup() (token.Token, bool) {
	switch {
	case l.take("<!"):
		return l.readDeclaration()
	case l.take("</>"):
		return token.Token{}, false
	case l.take("</"):
		if text.Letter(l.peek()) {
			return l.readTag(token.End)
		}
		return l.readBogus()
	case l.take("<") && l.peek() == '?':
		return l.readBogus()
	}
	t, made := l.readTag(token.Start)
	if made {
		l.name = t.Name
	}
	return t, made
}

// readBogus reads as a comment what is meant for other readers.
func (l *Lexer) readBogus() (token.Token, bool) {
	rs, _ := l.upTo(">")
	return noted(spelt(rs))
}
