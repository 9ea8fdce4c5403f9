package tree

import (
	"slices"
	"strings"

	"woodcut/dom"
	"woodcut/open"
	"woodcut/text"
	"woodcut/token"
)

// isForForeign tells whether a token is read by the rules for what isn't HTML.
func (b *Builder) isForForeign(t token.Token) bool {
	n := b.stack.Top()
	switch {
	case !b.notHTML(n):
		return false
	case open.TextPoint(b.d, n) && t.Kind == token.Start:
		return t.Is(token.Start, "mglyph", "malignmark")
	case t.Is(token.Start, "svg") && b.d.Nodes[n].Space == dom.Math && b.d.Name(n) == "annotation-xml":
		return false
	case t.Kind == token.Text || t.Kind == token.Start:
		return !open.TextPoint(b.d, n) && !b.isIntegrationPoint(n)
	}
	return true
}

// isIntegrationPoint tells whether a node that isn't of HTML holds HTML.
func (b *Builder) isIntegrationPoint(n int) bool {
	if !open.Foreign(b.d, n) {
		return false
	}
	if b.d.Nodes[n].Space == dom.SVG {
		return true
	}
	encoding, _ := token.Get(b.d.Nodes[n].Attrs, "encoding")
	kind := text.Lower(encoding)
	return kind == "text/html" || kind == "application/xhtml+xml"
}

func (b *Builder) foreign(t token.Token) {
	switch {
	case t.Kind == token.Text:
		b.say(strings.ReplaceAll(t.Data, null, string(text.Replaced)))
	case t.Kind == token.Comment:
		b.comment(t)
	case leavesForeign(t):
		b.popForeign()
		b.rules(b.mode)(t)
	case t.Kind == token.Start:
		b.insertOther(b.d.Nodes[b.stack.Top()].Space, t)
	case t.Kind == token.End:
		b.endForeign(t)
	}
}

// leavesForeign tells whether a tag is so surely one of HTML that what isn't HTML ends ahead of it.
func leavesForeign(t token.Token) bool {
	if t.Kind == token.End {
		return t.Name == "br" || t.Name == "p"
	}
	if t.Kind != token.Start {
		return false
	}
	switch t.Name {
	case "b", "big", "blockquote", "body", "br", "center", "code", "dd", "div", "dl", "dt", "em", "embed",
		"h1", "h2", "h3", "h4", "h5", "h6", "head", "hr", "i", "img", "li", "listing", "menu", "meta", "nobr",
		"ol", "p", "pre", "ruby", "s", "small", "span", "strong", "strike", "sub", "sup", "table", "tt", "u", "ul", "var":
		return true
	case "font":
		return slices.ContainsFunc(t.Attrs, func(a token.Attr) bool {
			return a.Name == "color" || a.Name == "face" || a.Name == "size"
		})
	}
	return false
}

// popForeign closes elements up to one in which HTML may stand.
func (b *Builder) popForeign() {
	for len(b.stack.All) > 1 {
		n := b.stack.Top()
		if !b.notHTML(n) || open.TextPoint(b.d, n) || b.isIntegrationPoint(n) {
			return
		}
		b.stack.Pop()
	}
}

func (b *Builder) endForeign(t token.Token) {
	for at, n := range slices.Backward(b.stack.All) {
		switch {
		case at == 0:
			return
		case !b.notHTML(n):
			b.rules(b.mode)(t)
			return
		case text.Lower(b.d.Name(n)) == t.Name:
			b.closeTo(n)
			return
		}
	}
}

// insertOther lays an element that isn't of HTML.
func (b *Builder) insertOther(space int, t token.Token) {
	t.Attrs = slices.Clone(t.Attrs)
	if space == dom.SVG {
		t.Name = svgName(t.Name)
		rename(t.Attrs, "viewbox", "viewBox")
	} else {
		rename(t.Attrs, "definitionurl", "definitionURL")
	}
	b.insertOf(space, t)
	if t.Self {
		b.stack.Pop()
	}
}

// svgName is the name of an element of SVG as it is written there, of one in small letters.
func svgName(name string) string {
	switch name {
	case "foreignobject":
		return "foreignObject"
	case "clippath":
		return "clipPath"
	case "lineargradient":
		return "linearGradient"
	case "radialgradient":
		return "radialGradient"
	case "textpath":
		return "textPath"
	}
	return name
}

func rename(list []token.Attr, from, to string) {
	for i := range list {
		if list[i].Name == from {
			list[i].Name = to
		}
	}
}
