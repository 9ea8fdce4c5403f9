package lex_test

import (
	"strings"

	"woodcut/chars"
	"woodcut/lex"
	"woodcut/token"
)

// machine is the tokenizer of the HTML standard, state by state and sign by sign, to hold the lexer against.
// Its names are those of the standard, shortened. It leaves out what tells errors alone.
type machine struct {
	rs       []rune
	at       int
	state    state
	back     state // where an end tag's beginning or a reference goes back to
	last     string
	sections bool
	switches map[string]int // the ways that start tags ask for
	buffer   string
	tag      token.Token
	note     string
	out      []token.Token
}

type state func(*machine, rune)

const eof rune = -1

func states() map[int]state {
	return map[int]state{
		lex.Data: (*machine).data, lex.RCData: (*machine).rcdata, lex.RawText: (*machine).rawtext,
		lex.Script: (*machine).script, lex.Plain: (*machine).plaintext,
	}
}

func (m *machine) run() []token.Token {
	for m.state != nil {
		r := eof
		if m.at < len(m.rs) {
			r = m.rs[m.at]
		}
		m.at++
		m.state(m, r)
	}
	return token.Join(m.out)
}

func (m *machine) again(s state) { m.at--; m.state = s }

func (m *machine) say(s string) { m.out = append(m.out, text(s)) }

// char says a sign, U+0000 replaced; at the end nothing more is to be done.
func (m *machine) char(r rune) {
	switch r {
	case eof:
		m.state = nil
	case 0:
		m.say("\ufffd")
	default:
		m.say(string(r))
	}
}

func blank(r rune) bool { return strings.ContainsRune("\t\n\f ", r) && r != eof }

func letter(r rune) bool { return r >= 'a' && r <= 'z' || r >= 'A' && r <= 'Z' }

func small(r rune) string {
	switch {
	case r == 0:
		return "\ufffd"
	case r >= 'A' && r <= 'Z':
		return string(r + 32)
	}
	return string(r)
}

func whole(r rune) string {
	if r == 0 {
		return "\ufffd"
	}
	return string(r)
}

// Texts

func (m *machine) data(r rune) {
	switch r {
	case '&':
		m.say(m.reference(false))
	case '<':
		m.state = (*machine).tagOpen
	case 0:
		m.say("\x00")
	default:
		m.char(r)
	}
}

func (m *machine) rcdata(r rune) {
	switch r {
	case '&':
		m.say(m.reference(false))
	case '<':
		m.state, m.back = (*machine).less, (*machine).rcdata
	default:
		m.char(r)
	}
}

func (m *machine) rawtext(r rune) {
	if r == '<' {
		m.state, m.back = (*machine).less, (*machine).rawtext
		return
	}
	m.char(r)
}

func (m *machine) plaintext(r rune) { m.char(r) }

// less, endOpen and endName are those of rcdata, rawtext, script and the escaped script, which differ in where they go back to.
func (m *machine) less(r rune) {
	if r == '/' {
		m.buffer = ""
		m.state = (*machine).endOpen
		return
	}
	m.say("<")
	m.again(m.back)
}

func (m *machine) endOpen(r rune) {
	if letter(r) {
		m.tag = token.Token{Kind: token.End}
		m.again((*machine).endName)
		return
	}
	m.say("</")
	m.again(m.back)
}

func (m *machine) endName(r rune) {
	fits := m.tag.Name == m.last
	switch {
	case letter(r):
		m.tag.Name += small(r)
		m.buffer += string(r)
	case blank(r) && fits:
		m.state = (*machine).beforeAttrName
	case r == '/' && fits:
		m.state = (*machine).selfClosing
	case r == '>' && fits:
		m.emitTag()
	default:
		m.say("</" + m.buffer)
		m.again(m.back)
	}
}

// Scripts

func (m *machine) script(r rune) {
	if r == '<' {
		m.state = (*machine).scriptLess
		return
	}
	m.char(r)
}

func (m *machine) scriptLess(r rune) {
	if r == '!' {
		m.say("<!")
		m.state = (*machine).escapeStart
		return
	}
	m.back = (*machine).script
	m.less(r)
}

func (m *machine) escapeStart(r rune) { m.dash(r, (*machine).escapeStartDash, (*machine).script) }

func (m *machine) escapeStartDash(r rune) { m.dash(r, (*machine).escapedDashDash, (*machine).script) }

func (m *machine) dash(r rune, yes, no state) {
	if r == '-' {
		m.say("-")
		m.state = yes
		return
	}
	m.again(no)
}

func (m *machine) escaped(r rune) { m.inEscaped(r, (*machine).escapedDash) }

func (m *machine) escapedDash(r rune) { m.inEscaped(r, (*machine).escapedDashDash) }

func (m *machine) escapedDashDash(r rune) {
	if r == '>' {
		m.say(">")
		m.state = (*machine).script
		return
	}
	m.inEscaped(r, (*machine).escapedDashDash)
}

func (m *machine) inEscaped(r rune, dashed state) {
	switch r {
	case '-':
		m.say("-")
		m.state = dashed
	case '<':
		m.state = (*machine).escapedLess
	default:
		m.state = (*machine).escaped
		m.char(r)
	}
}

func (m *machine) escapedLess(r rune) {
	m.back = (*machine).escaped
	if letter(r) {
		m.buffer = ""
		m.say("<")
		m.again((*machine).doubleStart)
		return
	}
	m.less(r)
}

func (m *machine) doubleStart(r rune) { m.word(r, (*machine).doubled, (*machine).escaped) }

func (m *machine) doubleEnd(r rune) { m.word(r, (*machine).escaped, (*machine).doubled) }

// word says the letters of a name, and goes on by whether it is script.
func (m *machine) word(r rune, yes, no state) {
	switch {
	case blank(r) || r == '/' || r == '>':
		m.say(string(r))
		m.state = no
		if m.buffer == "script" {
			m.state = yes
		}
	case letter(r):
		m.say(string(r))
		m.buffer += small(r)
	default:
		m.again(no)
	}
}

func (m *machine) doubled(r rune) { m.inDoubled(r, (*machine).doubledDash) }

func (m *machine) doubledDash(r rune) { m.inDoubled(r, (*machine).doubledDashDash) }

func (m *machine) doubledDashDash(r rune) {
	if r == '>' {
		m.say(">")
		m.state = (*machine).script
		return
	}
	m.inDoubled(r, (*machine).doubledDashDash)
}

func (m *machine) inDoubled(r rune, dashed state) {
	switch r {
	case '-':
		m.say("-")
		m.state = dashed
	case '<':
		m.say("<")
		m.state = (*machine).doubledLess
	default:
		m.state = (*machine).doubled
		m.char(r)
	}
}

func (m *machine) doubledLess(r rune) {
	if r == '/' {
		m.buffer = ""
		m.say("/")
		m.state = (*machine).doubleEnd
		return
	}
	m.again((*machine).doubled)
}

// References

func (m *machine) reference(inValue bool) string {
	rest := string(m.rs[m.at:])
	if strings.HasPrefix(rest, "#") {
		return m.numeric(rest[1:])
	}
	best := ""
	for _, e := range chars.Names() {
		for _, name := range []string{e.Name, e.Name + ";"} {
			if (e.Bare || name != e.Name) && strings.HasPrefix(rest, name) && len(name) > len(best) {
				best = name
			}
		}
	}
	if best == "" {
		return "&"
	}
	m.at += len(best)
	if inValue && !strings.HasSuffix(best, ";") && m.at < len(m.rs) {
		if r := m.rs[m.at]; r == '=' || letter(r) || r >= '0' && r <= '9' {
			return "&" + best
		}
	}
	signs, _, _ := chars.Match([]rune(best))
	return string(signs)
}

func (m *machine) numeric(rest string) string {
	m.at++
	digits, base, mark := "0123456789", 10, "&#"
	if strings.HasPrefix(rest, "x") || strings.HasPrefix(rest, "X") {
		m.at++
		digits, base, mark = "0123456789abcdef", 16, "&#"+rest[:1]
	}
	value, count := 0, 0
	for ; m.at < len(m.rs) && strings.Contains(digits, small(m.rs[m.at])); m.at++ {
		value = min(value*base+strings.Index(digits, small(m.rs[m.at])), 0x110000)
		count++
	}
	if count == 0 {
		return mark
	}
	if m.at < len(m.rs) && m.rs[m.at] == ';' {
		m.at++
	}
	return string(chars.Numeric(value))
}

// Tags

func (m *machine) tagOpen(r rune) {
	switch {
	case r == '!':
		m.state = (*machine).declaration
	case r == '/':
		m.state = (*machine).endTagOpen
	case letter(r):
		m.tag = token.Token{Kind: token.Start}
		m.again((*machine).tagName)
	case r == '?':
		m.note = ""
		m.again((*machine).bogus)
	default:
		m.say("<")
		m.again((*machine).data)
	}
}

func (m *machine) endTagOpen(r rune) {
	switch {
	case letter(r):
		m.tag = token.Token{Kind: token.End}
		m.again((*machine).tagName)
	case r == '>':
		m.state = (*machine).data
	case r == eof:
		m.say("</")
		m.state = nil
	default:
		m.note = ""
		m.again((*machine).bogus)
	}
}

func (m *machine) tagName(r rune) {
	switch {
	case blank(r):
		m.state = (*machine).beforeAttrName
	case r == '/':
		m.state = (*machine).selfClosing
	case r == '>':
		m.emitTag()
	case r == eof:
		m.state = nil
	default:
		m.tag.Name += small(r)
	}
}

func (m *machine) selfClosing(r rune) {
	switch r {
	case '>':
		m.tag.Self = true
		m.emitTag()
	case eof:
		m.state = nil
	default:
		m.again((*machine).beforeAttrName)
	}
}

func (m *machine) emitTag() {
	t := m.tag
	m.state = (*machine).data
	if t.Kind == token.End {
		m.out = append(m.out, end(t.Name))
		return
	}
	t.Attrs = token.Once(t.Attrs)
	m.out = append(m.out, t)
	if way := m.switches[t.Name]; way != lex.Data {
		m.last, m.state = t.Name, states()[way]
	}
}

func (m *machine) attr() *token.Attr { return &m.tag.Attrs[len(m.tag.Attrs)-1] }

func (m *machine) beforeAttrName(r rune) {
	switch {
	case blank(r):
	case r == '/' || r == '>' || r == eof:
		m.again((*machine).afterAttrName)
	case r == '=':
		m.tag.Attrs = append(m.tag.Attrs, token.Attr{Name: "="})
		m.state = (*machine).attrName
	default:
		m.tag.Attrs = append(m.tag.Attrs, token.Attr{})
		m.again((*machine).attrName)
	}
}

func (m *machine) attrName(r rune) {
	switch {
	case blank(r) || r == '/' || r == '>' || r == eof:
		m.again((*machine).afterAttrName)
	case r == '=':
		m.state = (*machine).beforeValue
	default:
		m.attr().Name += small(r)
	}
}

func (m *machine) afterAttrName(r rune) {
	switch {
	case blank(r):
	case r == '/':
		m.state = (*machine).selfClosing
	case r == '=':
		m.state = (*machine).beforeValue
	case r == '>':
		m.emitTag()
	case r == eof:
		m.state = nil
	default:
		m.tag.Attrs = append(m.tag.Attrs, token.Attr{})
		m.again((*machine).attrName)
	}
}

func (m *machine) beforeValue(r rune) {
	switch {
	case blank(r):
	case r == '"':
		m.state = (*machine).valueDouble
	case r == '\'':
		m.state = (*machine).valueSingle
	case r == '>':
		m.emitTag()
	default:
		m.again((*machine).valueBare)
	}
}

func (m *machine) valueDouble(r rune) { m.quotedValue(r, '"') }

func (m *machine) valueSingle(r rune) { m.quotedValue(r, '\'') }

func (m *machine) quotedValue(r, quote rune) {
	switch r {
	case quote:
		m.state = (*machine).afterValue
	case '&':
		m.attr().Val += m.reference(true)
	case eof:
		m.state = nil
	default:
		m.attr().Val += whole(r)
	}
}

func (m *machine) valueBare(r rune) {
	switch {
	case blank(r):
		m.state = (*machine).beforeAttrName
	case r == '&':
		m.attr().Val += m.reference(true)
	case r == '>':
		m.emitTag()
	case r == eof:
		m.state = nil
	default:
		m.attr().Val += whole(r)
	}
}

func (m *machine) afterValue(r rune) {
	switch {
	case blank(r):
		m.state = (*machine).beforeAttrName
	case r == '/':
		m.state = (*machine).selfClosing
	case r == '>':
		m.emitTag()
	case r == eof:
		m.state = nil
	default:
		m.again((*machine).beforeAttrName)
	}
}
