package lex

import (
	"woodcut/text"
	"woodcut/token"
)

// readRaw reads a text up to the element's end tag, or that tag, in a way in which nothing else is markup.
func (l *Lexer) readRaw() (token.Token, bool) {
	from := l.at
	l.skipRaw()
	rs := shown(l.rs[from:l.at])
	switch {
	case len(rs) == 0:
		l.way = Data
		l.take("</")
		return l.readTag(token.End)
	case l.way == RCData:
		return said(expand(rs, false))
	}
	return said(string(text.Encode(rs)))
}

// skipRaw goes to the element's end tag, or to the end of the input.
func (l *Lexer) skipRaw() {
	switch l.way {
	case Plain:
		l.at = len(l.rs)
	case Script:
		l.skipScript()
	default:
		for !l.ended() && !l.atEndTag() {
			l.at++
		}
	}
}

// atEndTag tells whether the element's end tag comes next. It reads ahead for that, and goes back.
func (l *Lexer) atEndTag() bool {
	defer l.backTo(l.at)
	if !l.take("</") || !text.Letter(l.peek()) {
		return false
	}
	name := named(l.until(endsName))
	return !l.ended() && name == l.name
}

func (l *Lexer) backTo(at int) { l.at = at }

// skipScript is skipRaw for scripts, which old pages hide in comments.
func (l *Lexer) skipScript() {
	for !l.ended() && !l.atEndTag() {
		if l.take("<!--") {
			l.skipHidden()
			continue
		}
		l.at++
	}
}

// skipHidden goes on behind a <!-- of a script: past the end of that part, or to the element's end tag in it.
func (l *Lexer) skipHidden() {
	inner := false
	for !l.ended() {
		switch {
		case l.atHiddenEnd():
			l.at++
			return
		case !inner && l.atEndTag():
			return
		case !inner && l.takeTag("<script"):
			inner = true
		case inner && l.takeTag("</script"):
			inner = false
		default:
			l.at++
		}
	}
}

// atHiddenEnd tells whether a > comes next with two hyphens ahead of it, behind a <!-- at the least.
func (l *Lexer) atHiddenEnd() bool {
	return l.peek() == '>' && l.rs[l.at-1] == '-' && l.rs[l.at-2] == '-'
}

// takeTag goes past the beginning of a tag, if that comes next and the tag's name ends with it.
func (l *Lexer) takeTag(word string) (taken bool) {
	at := l.at
	defer func() {
		if !taken {
			l.at = at
		}
	}()
	return l.takeSmall(word) && endsName(l.peek())
}
