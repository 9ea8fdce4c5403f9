package tree

import (
	"woodcut/open"
	"woodcut/token"
)

func (b *Builder) inTableBody(t token.Token) {
	switch {
	case t.Is(token.Start, "tr"):
		b.backToTableBody()
		b.insert(t)
		b.mode = inRow
	case t.Is(token.Start, "td", "th"):
		b.backToTableBody()
		b.insertNamed("tr")
		b.again(inRow, t)
	case t.Is(token.End, "tbody", "tfoot", "thead"):
		b.closeTableBody(t.Name)
	case t.Is(token.Start, "caption", "col", "colgroup", "tbody", "tfoot", "thead") || t.Is(token.End, "table"):
		if b.closeTableBody("tbody", "tfoot", "thead") {
			b.again(inTable, t)
		}
	case t.Is(token.End, "body", "caption", "col", "colgroup", "html", "td", "th", "tr"):
	default:
		b.inTable(t)
	}
}

func (b *Builder) backToTableBody() {
	b.stack.Back("tbody", "tfoot", "thead", "template", "html")
}

// closeTableBody closes a part of the table, if one of some names is in scope, and tells whether one is.
func (b *Builder) closeTableBody(names ...string) bool {
	return b.closePart(b.backToTableBody, inTable, names...)
}

// closePart closes the innermost element that is left once all within it is closed, if one of some names is in scope, and tells whether one is.
func (b *Builder) closePart(back func(), mode int, names ...string) bool {
	if !b.stack.Scope(open.Table, names...) {
		return false
	}
	back()
	b.stack.Pop()
	b.mode = mode
	return true
}

func (b *Builder) inRow(t token.Token) {
	switch {
	case t.Is(token.Start, "td", "th"):
		b.backToRow()
		b.insert(t)
		b.mode = inCell
		b.forms.Mark()
	case t.Is(token.End, "tr"):
		b.closeRow()
	case t.Is(token.Start, "caption", "col", "colgroup", "tbody", "tfoot", "thead", "tr") || t.Is(token.End, "table"):
		b.againBehindRow(t)
	case t.Is(token.End, "tbody", "tfoot", "thead") && b.stack.Scope(open.Table, t.Name):
		b.againBehindRow(t)
	case t.Is(token.End, "body", "caption", "col", "colgroup", "html", "td", "th"):
	default:
		b.inTable(t)
	}
}

func (b *Builder) backToRow() { b.stack.Back("tr", "template", "html") }

// closeRow closes the row, if one is in scope, and tells whether one is.
func (b *Builder) closeRow() bool { return b.closePart(b.backToRow, inTableBody, "tr") }

func (b *Builder) againBehindRow(t token.Token) {
	if b.closeRow() {
		b.again(inTableBody, t)
	}
}

func (b *Builder) inCell(t token.Token) {
	switch {
	case t.Is(token.End, "td", "th"):
		if b.stack.Scope(open.Table, t.Name) {
			b.closeCell(t.Name)
		}
	case isStartInTable(t):
		b.againBehindCell(t, "td", "th")
	case t.Is(token.End, "table", "tbody", "tfoot", "thead", "tr"):
		b.againBehindCell(t, t.Name)
	case t.Is(token.End, "body", "caption", "col", "colgroup", "html"):
	default:
		b.inBody(t)
	}
}

// closeCell closes the cell, of one of some names.
func (b *Builder) closeCell(names ...string) {
	b.stack.Imply("", false)
	b.stack.Until(names...)
	b.forms.Clear()
	b.mode = inRow
}

// againBehindCell closes the cell, if one of some names is in scope, for a token that can't stand in it.
func (b *Builder) againBehindCell(t token.Token, names ...string) {
	if b.stack.Scope(open.Table, names...) {
		b.closeCell("td", "th")
		b.again(inRow, t)
	}
}
