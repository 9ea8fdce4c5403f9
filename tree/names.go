package tree

import (
	"slices"

	"woodcut/dom"
	"woodcut/open"
	"woodcut/token"
)

// isEndBut tells whether a token is an end tag of none of some names.
func isEndBut(t token.Token, names ...string) bool {
	return t.Kind == token.End && !slices.Contains(names, t.Name)
}

// isOfHead tells whether an element belongs in the head.
func isOfHead(name string) bool {
	switch name {
	case "base", "basefont", "bgsound", "link", "meta", "noframes", "script", "style", "template", "title":
		return true
	}
	return false
}

func headings() []string { return []string{"h1", "h2", "h3", "h4", "h5", "h6"} }

// isBlock tells whether an element stands beside paragraphs, not within them, without a rule of its own.
func isBlock(name string) bool {
	switch name {
	case "address", "article", "aside", "blockquote", "center", "details", "dialog", "dir", "div", "dl",
		"fieldset", "figcaption", "figure", "footer", "header", "hgroup", "main", "menu", "nav", "ol", "p",
		"search", "section", "summary", "ul":
		return true
	}
	return false
}

// isFormatting tells whether an element's look goes on behind the end of what it stands in.
func isFormatting(name string) bool {
	switch name {
	case "a", "b", "big", "code", "em", "font", "i", "nobr", "s", "small", "strike", "strong", "tt", "u":
		return true
	}
	return false
}

// isSpecial tells whether a node bounds what an end tag closes.
func (b *Builder) isSpecial(n int) bool {
	if b.notHTML(n) {
		return open.TextPoint(b.d, n) || open.Foreign(b.d, n)
	}
	return isSpecialName(b.d.Name(n))
}

func isSpecialName(name string) bool {
	switch name {
	case "address", "applet", "area", "article", "aside", "base", "basefont", "bgsound", "blockquote", "body", "br",
		"button", "caption", "center", "col", "colgroup", "dd", "details", "dir", "div", "dl", "dt", "embed",
		"fieldset", "figcaption", "figure", "footer", "form", "frame", "frameset", "h1", "h2", "h3", "h4", "h5", "h6",
		"head", "header", "hgroup", "hr", "html", "iframe", "img", "input", "keygen", "li", "link", "listing", "main",
		"marquee", "menu", "meta", "nav", "noembed", "noframes", "noscript", "object", "ol", "p", "param", "plaintext",
		"pre", "script", "search", "section", "select", "source", "style", "summary", "table", "tbody", "td", "template",
		"textarea", "tfoot", "th", "thead", "title", "tr", "track", "ul", "wbr", "xmp":
		return true
	}
	return false
}

// notHTML tells whether a node is an element that isn't of HTML.
func (b *Builder) notHTML(n int) bool {
	return b.d.Kind(n) == dom.Element && b.d.Nodes[n].Space != dom.HTML
}

// topIs tells whether the innermost open element is one of HTML with one of some names.
func (b *Builder) topIs(names ...string) bool {
	return b.d.Is(b.stack.Top(), names...)
}

// popTop closes the innermost open element if it has one of some names.
func (b *Builder) popTop(names ...string) {
	if b.topIs(names...) {
		b.stack.Pop()
	}
}
