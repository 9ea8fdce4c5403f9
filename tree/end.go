package tree

import (
	"slices"

	"woodcut/dom"
	"woodcut/open"
	"woodcut/token"
)

func (b *Builder) endInBody(t token.Token) {
	name := t.Name
	switch name {
	case "template":
		b.endTemplate()
	case "body", "html":
		b.endBody(t)
	case "form":
		b.endForm()
	case "p":
		b.endParagraph()
	case "li":
		b.closeScoped(open.List, name, name)
	case "dd", "dt":
		b.closeScoped(open.Usual, name, name)
	case "h1", "h2", "h3", "h4", "h5", "h6":
		b.closeScoped(open.Usual, "", headings()...)
	case "button", "listing", "pre":
		b.closeScoped(open.Usual, "", name)
	case "applet", "marquee", "object":
		if b.closeScoped(open.Usual, "", name) {
			b.forms.Clear()
		}
	case "br":
		b.startInBody(token.Token{Kind: token.Start, Name: name})
	default:
		switch {
		case isBlock(name):
			b.closeScoped(open.Usual, "", name)
		case isFormatting(name):
			b.adopt(name)
		default:
			b.endOther(name)
		}
	}
}

func (b *Builder) endBody(t token.Token) {
	if !b.stack.Scope(open.Usual, "body") {
		return
	}
	b.mode = afterBody
	if t.Name == "html" {
		b.again(afterBody, t)
	}
}

func (b *Builder) endForm() {
	if b.stack.Has("template") {
		b.closeScoped(open.Usual, "", "form")
		return
	}
	form := b.form
	b.form = dom.None
	if b.stack.Seen(open.Usual, form) {
		b.stack.Imply("", false)
		b.stack.Remove(form)
	}
}

func (b *Builder) endParagraph() {
	if !b.stack.Scope(open.Button, "p") {
		b.insertNamed("p")
	}
	b.closeParagraph()
}

// endOther is for an end tag without a rule of its own.
func (b *Builder) endOther(name string) {
	for _, n := range slices.Backward(b.stack.All) {
		if b.d.Is(n, name) {
			b.stack.Imply(name, false)
			b.closeTo(n)
			return
		}
		if b.isSpecial(n) {
			return
		}
	}
}

// closeTo closes all elements up to an open one, this too.
func (b *Builder) closeTo(n int) {
	for b.stack.At(n) >= 0 {
		b.stack.Pop()
	}
}
