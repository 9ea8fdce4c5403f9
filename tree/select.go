package tree

import (
	"woodcut/open"
	"woodcut/token"
)

func (b *Builder) inSelect(t token.Token) {
	switch t.Kind {
	case token.Text:
		b.say(withoutNull(t.Data))
	case token.Comment:
		b.comment(t)
	case token.Start:
		b.startInSelect(t)
	case token.End:
		b.endInSelect(t)
	}
}

func (b *Builder) startInSelect(t token.Token) {
	switch t.Name {
	case "html":
		b.inBody(t)
	case "option":
		b.popTop("option")
		b.insert(t)
	case "optgroup":
		b.popTop("option")
		b.popTop("optgroup")
		b.insert(t)
	case "hr":
		b.popTop("option")
		b.popTop("optgroup")
		b.alone(t)
	case "select":
		b.closeSelect()
	case "input", "keygen", "textarea":
		if b.closeSelect() {
			b.again(b.mode, t)
		}
	case "script", "template":
		b.inHead(t)
	}
}

func (b *Builder) endInSelect(t token.Token) {
	switch t.Name {
	case "optgroup":
		if b.d.Is(b.around(b.stack.Top()), "optgroup") {
			b.popTop("option")
		}
		b.popTop("optgroup")
	case "option":
		b.popTop("option")
	case "select":
		b.closeSelect()
	case "template":
		b.endTemplate()
	}
}

// closeSelect closes the select, if one is in scope, and tells whether one is.
func (b *Builder) closeSelect() bool {
	if !b.stack.Scope(open.Select, "select") {
		return false
	}
	b.leaveSelect()
	return true
}

func (b *Builder) leaveSelect() {
	b.stack.Until("select")
	b.reset()
}

func (b *Builder) inSelectInTable(t token.Token) {
	names := []string{"caption", "table", "tbody", "tfoot", "thead", "tr", "td", "th"}
	switch {
	case t.Is(token.Start, names...) || t.Is(token.End, names...) && b.stack.Scope(open.Table, t.Name):
		b.leaveSelect()
		b.again(b.mode, t)
	case t.Is(token.End, names...):
	default:
		b.inSelect(t)
	}
}
