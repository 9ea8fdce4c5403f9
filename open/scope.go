package open

import (
	"slices"

	"woodcut/dom"
)

// TextPoint tells whether a node is one of mathematics in which a text stands.
func TextPoint(d *dom.Doc, n int) bool {
	return isOf(d, n, dom.Math, "mi", "mo", "mn", "ms", "mtext")
}

// Foreign tells whether a node isn't of HTML, and bounds a look all the same.
func Foreign(d *dom.Doc, n int) bool {
	return isOf(d, n, dom.Math, "annotation-xml") || isOf(d, n, dom.SVG, "foreignObject", "desc", "title")
}

// isOf tells whether a node is an element of a space with one of some names.
func isOf(d *dom.Doc, n, space int, names ...string) bool {
	return d.Kind(n) == dom.Element && d.Nodes[n].Space == space && slices.Contains(names, d.Nodes[n].Name)
}

// Scope tells whether an element of HTML of one of some names is found, from the innermost one on, ahead of what bounds the look.
func (s *Stack) Scope(kind int, names ...string) bool {
	return s.look(kind, func(n int) bool { return s.D.Is(n, names...) })
}

// Seen tells the same of a node.
func (s *Stack) Seen(kind, node int) bool {
	return s.look(kind, func(n int) bool { return n == node })
}

func (s *Stack) look(kind int, found func(n int) bool) bool {
	for _, n := range slices.Backward(s.nodes()) {
		// What bounds the look is looked at, too.
		if found(n) {
			return true
		}
		if bounds(s.D, kind, n) {
			return false
		}
	}
	return false
}

// bounds tells whether a node bounds a look of a kind; no node bounds one of a kind that there isn't.
func bounds(d *dom.Doc, kind, n int) bool {
	switch kind {
	case Usual:
		return boundsUsual(d, n)
	case List:
		return boundsUsual(d, n) || d.Is(n, "ol", "ul")
	case Button:
		return boundsUsual(d, n) || d.Is(n, "button")
	case Table:
		return d.Is(n, "html", "table", "template")
	case Select:
		return !d.Is(n, "optgroup", "option")
	}
	return false
}

func boundsUsual(d *dom.Doc, n int) bool {
	return d.Is(n, "applet", "caption", "html", "table", "td", "th", "marquee", "object", "template") ||
		TextPoint(d, n) || Foreign(d, n)
}

// Until closes all up to one of some names, this too.
func (s *Stack) Until(names ...string) {
	for len(s.nodes()) > 0 {
		if s.D.Is(s.Pop(), names...) {
			return
		}
	}
}

// Back closes all that isn't of one of some names.
func (s *Stack) Back(names ...string) {
	for len(s.nodes()) > 0 && !s.D.Is(s.Top(), names...) {
		s.Pop()
	}
}

// Imply closes elements that end where nothing says so, but for one of a name; all: and those of tables.
func (s *Stack) Imply(but string, all bool) {
	for len(s.nodes()) > 0 && implied(s.D, s.Top(), all) && s.D.Name(s.Top()) != but {
		s.Pop()
	}
}

// implied tells whether an element may end where nothing says so.
func implied(d *dom.Doc, n int, all bool) bool {
	return d.Is(n, "dd", "dt", "li", "optgroup", "option", "p", "rb", "rp", "rt", "rtc") ||
		all && d.Is(n, "caption", "colgroup", "tbody", "td", "tfoot", "th", "thead", "tr")
}
