package lex_test

import (
	"strings"

	"woodcut/token"
)

// Declarations of the standard's tokenizer.

func (m *machine) declaration(rune) {
	m.at--
	rest := string(m.rs[min(m.at, len(m.rs)):])
	m.note = ""
	switch {
	case strings.HasPrefix(rest, "--"):
		m.at += 2
		m.state = (*machine).commentStart
	case hasWord(rest, "doctype"):
		m.at += 7
		m.tag = token.Token{Kind: token.Doctype}
		m.state = (*machine).beforeName
	case m.sections && strings.HasPrefix(rest, "[CDATA["):
		m.at += 7
		m.state = (*machine).cdata
	default:
		m.state = (*machine).bogus
	}
}

func hasWord(s, word string) bool {
	return len(s) >= len(word) && strings.EqualFold(s[:len(word)], word)
}

func (m *machine) emitNote(next state) {
	m.out = append(m.out, comment(m.note))
	m.state = next
}

func (m *machine) bogus(r rune) {
	switch r {
	case '>':
		m.emitNote((*machine).data)
	case eof:
		m.emitNote(nil)
	default:
		m.note += whole(r)
	}
}

func (m *machine) commentStart(r rune) {
	switch r {
	case '-':
		m.state = (*machine).commentStartDash
	case '>':
		m.emitNote((*machine).data)
	default:
		m.again((*machine).comment)
	}
}

func (m *machine) commentStartDash(r rune) {
	switch r {
	case '-':
		m.state = (*machine).commentEnd
	case '>':
		m.emitNote((*machine).data)
	case eof:
		m.emitNote(nil)
	default:
		m.note += "-"
		m.again((*machine).comment)
	}
}

func (m *machine) comment(r rune) {
	switch r {
	case '-':
		m.state = (*machine).commentEndDash
	case eof:
		m.emitNote(nil)
	default:
		m.note += whole(r)
	}
}

func (m *machine) commentEndDash(r rune) {
	switch r {
	case '-':
		m.state = (*machine).commentEnd
	case eof:
		m.emitNote(nil)
	default:
		m.note += "-"
		m.again((*machine).comment)
	}
}

func (m *machine) commentEnd(r rune) {
	switch r {
	case '>':
		m.emitNote((*machine).data)
	case '!':
		m.state = (*machine).commentEndBang
	case '-':
		m.note += "-"
	case eof:
		m.emitNote(nil)
	default:
		m.note += "--"
		m.again((*machine).comment)
	}
}

func (m *machine) commentEndBang(r rune) {
	switch r {
	case '-':
		m.note += "--!"
		m.state = (*machine).commentEndDash
	case '>':
		m.emitNote((*machine).data)
	case eof:
		m.emitNote(nil)
	default:
		m.note += "--!"
		m.again((*machine).comment)
	}
}

func (m *machine) cdata(r rune) {
	switch r {
	case ']':
		m.state = (*machine).cdataBracket
	case eof:
		m.state = nil
	default:
		m.say(string(r))
	}
}

func (m *machine) cdataBracket(r rune) {
	if r == ']' {
		m.state = (*machine).cdataEnd
		return
	}
	m.say("]")
	m.again((*machine).cdata)
}

func (m *machine) cdataEnd(r rune) {
	switch r {
	case ']':
		m.say("]")
	case '>':
		m.state = (*machine).data
	default:
		m.say("]]")
		m.again((*machine).cdata)
	}
}

// Doctypes

func (m *machine) emitDoctype(quirks bool, next state) {
	m.tag.Quirks = m.tag.Quirks || quirks
	m.out = append(m.out, m.tag)
	m.state = next
}

// over ends a doctype at a > or at the end, if that comes.
func (m *machine) over(r rune, quirksAtMore bool) bool {
	switch r {
	case '>':
		m.emitDoctype(quirksAtMore, (*machine).data)
	case eof:
		m.emitDoctype(true, nil)
	default:
		return false
	}
	return true
}

func (m *machine) beforeName(r rune) {
	if blank(r) || m.over(r, true) {
		return
	}
	m.again((*machine).doctypeName)
}

func (m *machine) doctypeName(r rune) {
	switch {
	case m.over(r, false):
	case blank(r):
		m.state = (*machine).afterName
	default:
		m.tag.Name += small(r)
	}
}

func (m *machine) afterName(r rune) {
	if blank(r) || m.over(r, false) {
		return
	}
	rest := string(m.rs[m.at-1:])
	switch {
	case hasWord(rest, "public"):
		m.at += 5
		m.state = (*machine).beforePublic
	case hasWord(rest, "system"):
		m.at += 5
		m.state = (*machine).beforeSystem
	default:
		m.tag.Quirks = true
		m.again((*machine).bogusDoctype)
	}
}

func (m *machine) beforePublic(r rune) {
	switch {
	case blank(r), m.over(r, true):
	case r == '"':
		m.tag.HasPub, m.state = true, (*machine).publicDouble
	case r == '\'':
		m.tag.HasPub, m.state = true, (*machine).publicSingle
	default:
		m.tag.Quirks = true
		m.again((*machine).bogusDoctype)
	}
}

func (m *machine) publicDouble(r rune) { m.identifier(r, '"', &m.tag.Public, (*machine).afterPublic) }

func (m *machine) publicSingle(r rune) { m.identifier(r, '\'', &m.tag.Public, (*machine).afterPublic) }

func (m *machine) identifier(r, quote rune, id *string, next state) {
	switch {
	case r == quote:
		m.state = next
	case m.over(r, true):
	default:
		*id += whole(r)
	}
}

func (m *machine) afterPublic(r rune) {
	if blank(r) || m.over(r, false) {
		return
	}
	m.again((*machine).beforeSystem)
}

func (m *machine) beforeSystem(r rune) {
	switch {
	case blank(r), m.over(r, true):
	case r == '"':
		m.tag.HasSys, m.state = true, (*machine).systemDouble
	case r == '\'':
		m.tag.HasSys, m.state = true, (*machine).systemSingle
	default:
		m.tag.Quirks = true
		m.again((*machine).bogusDoctype)
	}
}

func (m *machine) systemDouble(r rune) { m.identifier(r, '"', &m.tag.System, (*machine).afterSystem) }

func (m *machine) systemSingle(r rune) { m.identifier(r, '\'', &m.tag.System, (*machine).afterSystem) }

func (m *machine) afterSystem(r rune) {
	if blank(r) || m.over(r, false) {
		return
	}
	m.again((*machine).bogusDoctype)
}

func (m *machine) bogusDoctype(r rune) {
	switch r {
	case '>':
		m.emitDoctype(false, (*machine).data)
	case eof:
		m.emitDoctype(false, nil)
	}
}
