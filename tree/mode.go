package tree

import (
	"slices"

	"woodcut/dom"
	"woodcut/token"
)

// The insertion modes; those up to afterHead lay elements where the input lacks them.
const (
	initial = iota
	beforeHTML
	beforeHead
	inHead
	afterHead
	inText
	inBody
	inTable
	inCaption
	inColumns
	inTableBody
	inRow
	inCell
	inSelect
	inSelectInTable
	inTemplate
	afterBody
	afterAll
)

// rules is what is done with a token in a mode.
func (b *Builder) rules(mode int) func(token.Token) {
	switch mode {
	case initial:
		return b.initial
	case beforeHTML:
		return b.beforeHTML
	case beforeHead:
		return b.beforeHead
	case inHead:
		return b.inHead
	case afterHead:
		return b.afterHead
	case inText:
		return b.inText
	case inTable:
		return b.inTable
	case inCaption:
		return b.inCaption
	case inColumns:
		return b.inColumns
	case inTableBody:
		return b.inTableBody
	case inRow:
		return b.inRow
	case inCell:
		return b.inCell
	case inSelect:
		return b.inSelect
	case inSelectInTable:
		return b.inSelectInTable
	case inTemplate:
		return b.inTemplate
	case afterBody:
		return b.afterBody
	case afterAll:
		return b.afterAll
	}
	return b.inBody
}

// reset sets the mode that the open elements ask for.
func (b *Builder) reset() {
	for at, n := range slices.Backward(b.stack.All) {
		name := ""
		switch {
		case at == 0 && b.context != "":
			name = b.context
		case b.d.Is(n, b.d.Name(n)):
			name = b.d.Name(n)
		}
		if mode, found := b.modeWithin(at, name); found {
			b.mode = mode
			return
		}
	}
	b.mode = inBody
}

// modeWithin is the mode for which an open element of HTML asks, if it asks for one.
func (b *Builder) modeWithin(at int, name string) (int, bool) {
	last := at == 0
	switch name {
	case "select":
		return b.modeWithinSelect(at), true
	case "td", "th":
		return inCell, !last
	case "tr":
		return inRow, true
	case "tbody", "thead", "tfoot":
		return inTableBody, true
	case "caption":
		return inCaption, true
	case "colgroup":
		return inColumns, true
	case "table":
		return inTable, true
	case "template":
		return b.lastMode(), true
	case "head":
		return inHead, !last
	case "body":
		return inBody, true
	case "html":
		if b.head == dom.None {
			return beforeHead, true
		}
		return afterHead, true
	}
	return inBody, false
}

// modeWithinSelect depends on whether a table is open around the select.
func (b *Builder) modeWithinSelect(at int) int {
	for _, n := range slices.Backward(b.stack.All[:at]) {
		if b.d.Is(n, "template") {
			break
		}
		if b.d.Is(n, "table") {
			return inSelectInTable
		}
	}
	return inSelect
}

// lastMode is the mode of the innermost template.
func (b *Builder) lastMode() int {
	if len(b.modes) == 0 {
		return inBody
	}
	return b.modes[len(b.modes)-1]
}

// dropMode forgets the mode of the innermost template.
func (b *Builder) dropMode() {
	b.modes = b.modes[:max(len(b.modes)-1, 0)]
}
