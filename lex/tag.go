package lex

import (
	"woodcut/text"
	"woodcut/token"
)

// readTag reads a tag of a kind from its name on; false: the input ends within it.
func (l *Lexer) readTag(kind int) (token.Token, bool) {
	name := named(l.until(endsName))
	var attrs []token.Attr
	for !l.ended() {
		switch {
		case l.take(">"):
			return tag(kind, name, attrs, false), true
		case l.take("/>"):
			return tag(kind, name, attrs, true), true
		case text.Blank(l.peek()), l.peek() == '/':
			l.at++
		default:
			attrs = append(attrs, l.readAttr())
		}
	}
	return token.Token{}, false
}

// tag is a tag's token, of what has been read of it.
func tag(kind int, name string, attrs []token.Attr, self bool) token.Token {
	if kind == token.End {
		return token.Token{Kind: kind, Name: name}
	}
	return token.Token{Kind: kind, Name: name, Attrs: token.Once(attrs), Self: self}
}

func (l *Lexer) readAttr() token.Attr {
	from := l.at
	// The first sign is the name's, even if it is an equals sign.
	l.at++
	l.until(func(r rune) bool { return endsName(r) || r == '=' })
	a := token.Attr{Name: named(l.rs[from:l.at])}
	l.skipBlanks()
	if l.take("=") {
		l.skipBlanks()
		a.Val = expand(shown(l.readValue()), true)
	}
	return a
}

// readValue reads the signs of a value, in quotes or without.
func (l *Lexer) readValue() []rune {
	quote := l.peek()
	if !isQuote(quote) {
		return l.until(endsWord)
	}
	l.at++
	rs, _ := l.upTo(string(quote))
	return rs
}
