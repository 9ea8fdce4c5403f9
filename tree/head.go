package tree

import (
	"woodcut/dom"
	"woodcut/lex"
	"woodcut/token"
)

// The modes ahead of the body.

func (b *Builder) initial(t token.Token) {
	_, t, more := b.cut(t)
	switch {
	case !more:
	case t.Kind == token.Comment:
		b.commentIn(t, b.endOf(dom.None))
	case t.Kind == token.Doctype:
		b.doctype(t)
		b.mode = beforeHTML
	default:
		b.d.Quirks = true
		b.again(beforeHTML, t)
	}
}

func (b *Builder) doctype(t token.Token) {
	b.d.Quirks = t.Quirks || t.Name != "html"
	n := b.add(dom.Node{Kind: dom.Doctype, Name: t.Name, Public: t.Public, System: t.System})
	if n != dom.None {
		b.lay(n, b.endOf(dom.None))
	}
}

func (b *Builder) beforeHTML(t token.Token) {
	_, t, more := b.cut(t)
	switch {
	case !more || t.Kind == token.Doctype || isEndBut(t, "head", "body", "html", "br"):
	case t.Kind == token.Comment:
		b.commentIn(t, b.endOf(dom.None))
	case t.Is(token.Start, "html"):
		b.insert(t)
		b.mode = beforeHead
	default:
		b.insertNamed("html")
		b.again(beforeHead, t)
	}
}

// common is for what many modes do alike, and tells whether it was for a token of that kind.
func (b *Builder) common(t token.Token) bool {
	switch {
	case t.Kind == token.Doctype:
	case t.Kind == token.Comment:
		b.comment(t)
	case t.Is(token.Start, "html"):
		b.inBody(t)
	default:
		return false
	}
	return true
}

func (b *Builder) beforeHead(t token.Token) {
	_, t, more := b.cut(t)
	switch {
	case !more || b.common(t) || isEndBut(t, "head", "body", "html", "br"):
	case t.Is(token.Start, "head"):
		b.head = b.insert(t)
		b.mode = inHead
	default:
		b.head = b.insertNamed("head")
		b.again(inHead, t)
	}
}

func (b *Builder) inHead(t token.Token) {
	blanks, t, more := b.cut(t)
	b.say(blanks)
	switch {
	case !more || b.common(t):
	case t.Kind == token.Start && isOfHead(t.Name):
		b.startInHead(t)
	case t.Is(token.End, "template"):
		b.endTemplate()
	case t.Is(token.End, "head"):
		b.stack.Pop()
		b.mode = afterHead
	case t.Is(token.Start, "head") || isEndBut(t, "body", "html", "br"):
	default:
		b.stack.Pop()
		b.again(afterHead, t)
	}
}

// startInHead is for the start tag of an element that belongs in the head.
func (b *Builder) startInHead(t token.Token) {
	switch t.Name {
	case "title":
		b.raw(t, lex.RCData)
	case "noframes", "style":
		b.raw(t, lex.RawText)
	case "script":
		b.raw(t, lex.Script)
	case "template":
		b.insert(t)
		b.forms.Mark()
		b.mode = inTemplate
		b.modes = append(b.modes, inTemplate)
	default:
		b.alone(t)
	}
}

// endTemplate closes the innermost template, if one is open.
func (b *Builder) endTemplate() {
	if !b.stack.Has("template") {
		return
	}
	b.stack.Imply("", true)
	b.stack.Until("template")
	b.forms.Clear()
	b.dropMode()
	b.reset()
}

func (b *Builder) afterHead(t token.Token) {
	blanks, t, more := b.cut(t)
	b.say(blanks)
	switch {
	case !more || b.common(t):
	case t.Is(token.Start, "body"):
		b.insert(t)
		b.mode = inBody
	case t.Kind == token.Start && isOfHead(t.Name):
		b.push(b.head)
		b.inHead(t)
		b.stack.Remove(b.head)
	case t.Is(token.End, "template"):
		b.endTemplate()
	case t.Is(token.Start, "head") || isEndBut(t, "body", "html", "br"):
	default:
		b.insertNamed("body")
		b.again(inBody, t)
	}
}
