package tree

import (
	"slices"

	"woodcut/dom"
	"woodcut/lex"
	"woodcut/open"
	"woodcut/token"
)

func (b *Builder) inBody(t token.Token) {
	switch t.Kind {
	case token.Text:
		b.textInBody(t)
	case token.Comment:
		b.comment(t)
	case token.Start:
		b.startInBody(t)
	case token.End:
		b.endInBody(t)
	}
}

func (b *Builder) textInBody(t token.Token) {
	s := withoutNull(t.Data)
	if s == "" {
		// A text of nothing isn't there: no element goes on for it.
		return
	}
	b.reconstruct()
	b.say(s)
}

func (b *Builder) startInBody(t token.Token) {
	switch t.Name {
	case "caption", "col", "colgroup", "tbody", "td", "tfoot", "th", "thead", "tr", "frame", "frameset", "head":
	case "html", "body":
		b.startAgain(t)
	case "form":
		b.startForm(t)
	case "li":
		b.closeItem("li")
		b.startBlock(t)
	case "dd", "dt":
		b.closeItem("dd", "dt")
		b.startBlock(t)
	case "table":
		b.startTable(t)
	case "param", "source", "track":
		b.alone(t)
	case "textarea":
		b.rawPastNewline(t)
	case "iframe", "noembed":
		b.raw(t, lex.RawText)
	case "rb", "rtc":
		b.startRuby(t, "")
	case "rp", "rt":
		b.startRuby(t, "rtc")
	case "h1", "h2", "h3", "h4", "h5", "h6", "hr", "listing", "plaintext", "pre", "xmp":
		b.startBlock(t)
	default:
		switch {
		case isOfHead(t.Name):
			b.inHead(t)
		case isBlock(t.Name):
			b.startBlock(t)
		default:
			b.startInline(t)
		}
	}
}

// startAgain is for a start tag of the page's html or body, which are there already: they get what attributes they lack.
func (b *Builder) startAgain(t token.Token) {
	if b.stack.Has("template") {
		return
	}
	switch {
	case t.Name == "html":
		b.give(0, t)
	case len(b.stack.All) > 1 && b.d.Is(b.stack.All[1], "body"):
		b.give(1, t)
	}
}

func (b *Builder) startForm(t token.Token) {
	within := b.stack.Has("template")
	if b.form != dom.None && !within {
		return
	}
	b.closeOpenParagraph()
	n := b.insert(t)
	if !within {
		b.form = n
	}
}

func (b *Builder) startTable(t token.Token) {
	if !b.d.Quirks {
		b.closeOpenParagraph()
	}
	b.insert(t)
	b.mode = inTable
}

func (b *Builder) startRuby(t token.Token, but string) {
	if b.stack.Scope(open.Usual, "ruby") {
		b.stack.Imply(but, false)
	}
	b.insert(t)
}

// startBlock is for the start tag of an element that a paragraph can't hold.
func (b *Builder) startBlock(t token.Token) {
	b.closeOpenParagraph()
	switch t.Name {
	case "h1", "h2", "h3", "h4", "h5", "h6":
		b.popTop(headings()...)
		b.insert(t)
	case "hr":
		b.alone(t)
	case "pre", "listing":
		b.insert(t)
		b.skip = true
	case "plaintext":
		b.insert(t)
		b.lexer.Way(lex.Plain, t.Name)
	case "xmp":
		b.reconstruct()
		b.raw(t, lex.RawText)
	default:
		b.insert(t)
	}
}

// startInline is for the start tag of an element that stands in the run of a text.
func (b *Builder) startInline(t token.Token) {
	switch t.Name {
	case "a":
		b.endLastA()
	case "button":
		b.closeScoped(open.Usual, "", t.Name)
	case "optgroup", "option":
		b.popTop("option")
	case "image":
		// What authors of old wrote for img.
		t.Name = "img"
	}
	b.reconstruct()
	switch t.Name {
	case "area", "br", "embed", "img", "keygen", "wbr", "input":
		b.alone(t)
	case "applet", "marquee", "object":
		b.insert(t)
		b.forms.Mark()
	case "select":
		b.startSelect(t)
	case "math":
		b.insertOther(dom.Math, t)
	case "svg":
		b.insertOther(dom.SVG, t)
	case "nobr":
		b.endOpenNobr()
		b.forms.Add(b.insert(t), t)
	default:
		n := b.insert(t)
		if isFormatting(t.Name) {
			b.forms.Add(n, t)
		}
	}
}

// endLastA ends a link that is open where another one begins.
func (b *Builder) endLastA() {
	n := b.forms.Last("a")
	if n == dom.None {
		return
	}
	b.adopt("a")
	b.forms.Remove(n)
	b.stack.Remove(n)
}

func (b *Builder) endOpenNobr() {
	if b.stack.Scope(open.Usual, "nobr") {
		b.adopt("nobr")
		b.reconstruct()
	}
}

func (b *Builder) startSelect(t token.Token) {
	b.insert(t)
	switch b.mode {
	case inTable, inCaption, inTableBody, inRow, inCell:
		b.mode = inSelectInTable
	default:
		b.mode = inSelect
	}
}

// closeItem closes the item of a list within which another one begins.
func (b *Builder) closeItem(names ...string) {
	for _, n := range slices.Backward(b.stack.All) {
		if b.d.Is(n, names...) {
			name := b.d.Name(n)
			b.stack.Imply(name, false)
			b.stack.Until(name)
			return
		}
		if b.isSpecial(n) && !b.d.Is(n, "address", "div", "p") {
			return
		}
	}
}

// closeParagraph closes a p that is open.
func (b *Builder) closeParagraph() {
	b.stack.Imply("p", false)
	b.stack.Until("p")
}

func (b *Builder) closeOpenParagraph() {
	if b.stack.Scope(open.Button, "p") {
		b.closeParagraph()
	}
}

// closeScoped closes the innermost element of some names, if a scope has one, and tells whether it has.
func (b *Builder) closeScoped(kind int, but string, names ...string) bool {
	if !b.stack.Scope(kind, names...) {
		return false
	}
	b.stack.Imply(but, false)
	b.stack.Until(names...)
	return true
}
