package ser

import "woodcut/dom"

// writer is the text of a tree, as far as it is written.
type writer struct {
	d    *dom.Doc
	out  []byte
	left int // nodes that may still come: no tree has more than its nodes, but a ring would go on for ever
}

func (w *writer) say(words ...string) {
	for _, word := range words {
		w.out = append(w.out, word...)
	}
}

// inner writes what stands beneath a node.
func (w *writer) inner(n int) {
	if w.isHTML(n, Void) {
		return
	}
	raw := w.isHTML(n, Raw)
	for _, kid := range w.d.Kids(w.holder(n)) {
		if w.left == 0 {
			return
		}
		w.left--
		w.node(kid, raw)
	}
}

// isHTML tells whether a node is an element of HTML whose name is one of some.
func (w *writer) isHTML(n int, one func(name string) bool) bool {
	return w.d.Kind(n) == dom.Element && w.d.Nodes[n].Space == dom.HTML && one(w.d.Nodes[n].Name)
}

// holder is the node whose kids are written as those of another one: of a template that beneath which its contents stand.
func (w *writer) holder(n int) int {
	// The page itself is nobody's contents: a node that was made by hand may hold its number by default.
	if w.d.Kind(n) != dom.Element || w.d.Nodes[n].Inner <= dom.Root {
		return n
	}
	return w.d.Nodes[n].Inner
}

// node writes a node; raw: a text as it is.
func (w *writer) node(n int, raw bool) {
	switch w.d.Kind(n) {
	case dom.Element:
		w.element(n)
	case dom.Text:
		w.text(w.d.Nodes[n].Data, raw)
	case dom.Comment:
		w.say("<!--", w.d.Nodes[n].Data, "-->")
	case dom.Doctype:
		w.say("<!DOCTYPE ", w.d.Nodes[n].Name, ">")
	}
}

func (w *writer) element(n int) {
	name := w.d.Name(n)
	w.say("<", name)
	for _, a := range w.d.Nodes[n].Attrs {
		w.say(" ", a.Name, `="`, Value(a.Val), `"`)
	}
	w.say(">")
	w.inner(n)
	if !w.isHTML(n, Void) {
		w.say("</", name, ">")
	}
}

func (w *writer) text(s string, raw bool) {
	if !raw {
		s = Text(s)
	}
	w.say(s)
}
