package tree

import (
	"woodcut/dom"
	"woodcut/token"
)

func (b *Builder) inTemplate(t token.Token) {
	switch {
	case t.Kind == token.Start && isOfHead(t.Name):
		b.inHead(t)
	case t.Kind == token.Start:
		b.modeOfContents(t)
	case t.Is(token.End, "template"):
		b.endTemplate()
	case t.Kind != token.End:
		b.inBody(t)
	}
}

// modeOfContents is for the first tag that tells what a template holds.
func (b *Builder) modeOfContents(t token.Token) {
	mode := inBody
	switch t.Name {
	case "caption", "colgroup", "tbody", "tfoot", "thead":
		mode = inTable
	case "col":
		mode = inColumns
	case "tr":
		mode = inTableBody
	case "td", "th":
		mode = inRow
	}
	b.dropMode()
	b.modes = append(b.modes, mode)
	b.again(mode, t)
}

func (b *Builder) afterBody(t token.Token) {
	if !t.Is(token.End, "html") {
		b.behindBody(t, b.endOf(b.stack.All[0]))
		return
	}
	if b.context == "" {
		b.mode = afterAll
	}
}

func (b *Builder) afterAll(t token.Token) { b.behindBody(t, b.endOf(dom.None)) }

// behindBody is for what comes behind the body; a comment goes to a place of its own.
func (b *Builder) behindBody(t token.Token, comments place) {
	blanks, t, more := b.cut(t)
	b.textInBody(token.Token{Kind: token.Text, Data: blanks})
	switch {
	case !more || t.Kind == token.Doctype:
	case t.Kind == token.Comment:
		b.commentIn(t, comments)
	case t.Is(token.Start, "html"):
		b.inBody(t)
	default:
		b.again(inBody, t)
	}
}
