package tree

import (
	"woodcut/dom"
	"woodcut/open"
	"woodcut/text"
	"woodcut/token"
)

func (b *Builder) inTable(t token.Token) {
	switch {
	case t.Kind == token.Text && b.topIs("table", "tbody", "tfoot", "thead", "tr", "template"):
		b.collected += withoutNull(t.Data)
	case t.Kind == token.Comment:
		b.comment(t)
	case t.Kind == token.Doctype:
	case t.Kind == token.Start:
		b.startInTable(t)
	case t.Kind == token.End:
		b.endInTable(t)
	default:
		b.withFoster(t)
	}
}

// sayCollected lays the text that was collected: only as a whole does it show whether it may stand in a table.
func (b *Builder) sayCollected() {
	s := b.collected
	b.collected = ""
	if isBlank(s) {
		b.say(s)
		return
	}
	b.withFoster(token.Token{Kind: token.Text, Data: s})
}

// withFoster is for a token that isn't meant to stand in a table.
func (b *Builder) withFoster(t token.Token) {
	b.foster = true
	b.inBody(t)
	b.foster = false
}

func (b *Builder) startInTable(t token.Token) {
	switch t.Name {
	case "caption":
		b.backToTable()
		b.forms.Mark()
		b.insert(t)
		b.mode = inCaption
	case "colgroup":
		b.backToTable()
		b.insert(t)
		b.mode = inColumns
	case "col":
		b.backToTable()
		b.insertNamed("colgroup")
		b.again(inColumns, t)
	case "tbody", "tfoot", "thead":
		b.backToTable()
		b.insert(t)
		b.mode = inTableBody
	case "td", "th", "tr":
		b.backToTable()
		b.insertNamed("tbody")
		b.again(inTableBody, t)
	case "table":
		if b.endTable() {
			b.again(b.mode, t)
		}
	case "style", "script", "template":
		b.inHead(t)
	case "input":
		b.inputInTable(t)
	case "form":
		b.formInTable(t)
	default:
		b.withFoster(t)
	}
}

func (b *Builder) endInTable(t token.Token) {
	switch t.Name {
	case "table":
		b.endTable()
	case "body", "html", "caption", "col", "colgroup", "tbody", "td", "tfoot", "th", "thead", "tr":
	case "template":
		b.endTemplate()
	default:
		b.withFoster(t)
	}
}

func (b *Builder) backToTable() { b.stack.Back("table", "template", "html") }

// endTable closes the table, if one is in scope, and tells whether one is.
func (b *Builder) endTable() bool {
	if !b.stack.Scope(open.Table, "table") {
		return false
	}
	b.stack.Until("table")
	b.reset()
	return true
}

func (b *Builder) inputInTable(t token.Token) {
	if kind, _ := t.Get("type"); text.Lower(kind) == "hidden" {
		b.alone(t)
		return
	}
	b.withFoster(t)
}

func (b *Builder) formInTable(t token.Token) {
	if b.form == dom.None && !b.stack.Has("template") {
		b.form = b.alone(t)
	}
}

func (b *Builder) inCaption(t token.Token) {
	switch {
	case t.Is(token.End, "caption"):
		b.closeCaption()
	case t.Is(token.End, "table") || isStartInTable(t):
		if b.closeCaption() {
			b.again(inTable, t)
		}
	case t.Is(token.End, "body", "html", "col", "colgroup", "tbody", "td", "tfoot", "th", "thead", "tr"):
	default:
		b.inBody(t)
	}
}

// closeCaption closes the caption, if one is in scope, and tells whether one is.
func (b *Builder) closeCaption() bool {
	if !b.closeScoped(open.Table, "", "caption") {
		return false
	}
	b.forms.Clear()
	b.mode = inTable
	return true
}

// isStartInTable tells whether a token begins a part of a table.
func isStartInTable(t token.Token) bool {
	return t.Is(token.Start, "caption", "col", "colgroup", "tbody", "td", "tfoot", "th", "thead", "tr")
}

func (b *Builder) inColumns(t token.Token) {
	blanks, t, more := b.cut(t)
	b.say(blanks)
	switch {
	case !more || b.common(t) || t.Is(token.End, "col"):
	case t.Is(token.Start, "col"):
		b.alone(t)
	case t.Is(token.Start, "template"):
		b.inHead(t)
	case t.Is(token.End, "template"):
		b.endTemplate()
	case b.topIs("colgroup"):
		b.stack.Pop()
		b.mode = inTable
		if !t.Is(token.End, "colgroup") {
			b.again(inTable, t)
		}
	}
}
