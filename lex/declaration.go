package lex

import (
	"strings"

	"woodcut/text"
	"woodcut/token"
)

// readDeclaration reads what stands behind a <!.
func (l *Lexer) readDeclaration() (token.Token, bool) {
	switch {
	case l.take("--"):
		return l.readComment()
	case l.takeSmall("doctype"):
		return l.readDoctype(), true
	case l.may && l.take("[CDATA["):
		rs, _ := l.upTo("]]>")
		return said(string(text.Encode(rs)))
	}
	return l.readBogus()
}

// readComment reads a comment behind its <!--.
func (l *Lexer) readComment() (token.Token, bool) {
	if l.take(">") || l.take("->") {
		return noted("")
	}
	rs, closed := l.upTo("-->", "--!>")
	data := spelt(rs)
	if !closed {
		data = withoutTail(data)
	}
	return noted(data)
}

// withoutTail is the data of a comment that the input cuts off, without a part of the end that it should have.
func withoutTail(data string) string {
	for _, tail := range [...]string{"--!", "--", "-"} {
		if cut, found := strings.CutSuffix(data, tail); found {
			return cut
		}
	}
	return data
}
