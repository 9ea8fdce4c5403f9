package settle

import (
	"slices"
	"strings"

	"woodcut/dom"
	"woodcut/text"
)

// checker goes through a tree.
type checker struct {
	d    *dom.Doc
	left int // nodes that may still come: no tree has more than its nodes, but a ring would go on for ever
}

// page tells whether the whole page is as it should be.
func (c *checker) page() bool {
	top := c.d.Kids(dom.Root)
	if len(top) != 2 || !c.isDoctype(top[0]) || c.name(top[1]) != "html" {
		return false
	}
	halves := c.d.Kids(top[1])
	return len(halves) == 2 &&
		c.name(halves[0]) == "head" && c.all(halves[0], c.isOfHead) &&
		c.name(halves[1]) == "body" && c.all(halves[1], c.isFlow)
}

// all tells whether all that stands right beneath a node fits there.
func (c *checker) all(n int, fits func(n int) bool) bool {
	for _, kid := range c.d.Kids(n) {
		c.left--
		if c.left < 0 || !fits(kid) {
			return false
		}
	}
	return true
}

// holding tells of nodes whether they are elements with one of some names, within which all fits.
func (c *checker) holding(fits func(n int) bool, names ...string) func(n int) bool {
	return func(n int) bool {
		return slices.Contains(names, c.name(n)) && c.all(n, fits)
	}
}

func (c *checker) isEmpty(n int) bool { return len(c.d.Kids(n)) == 0 }

// name is the name of an element of HTML with plain attributes, and nothing of other nodes.
func (c *checker) name(n int) string {
	name := c.d.Name(n)
	if !c.d.Is(n, name) || !arePlain(c.d.Nodes[n].Attrs) {
		return ""
	}
	return name
}

// isDoctype tells whether a node is the doctype of today's pages.
func (c *checker) isDoctype(n int) bool {
	if c.d.Kind(n) != dom.Doctype {
		return false
	}
	x := c.d.Nodes[n]
	return x.Name == "html" && x.Public == "" && x.System == ""
}

func (c *checker) isText(n int) bool {
	return c.d.Kind(n) == dom.Text && c.data(n) != "" && isClean(c.data(n))
}

// isComment tells whether a node is a comment with nothing in it that could end it.
func (c *checker) isComment(n int) bool {
	data := c.data(n)
	return c.d.Kind(n) == dom.Comment && isClean(data) && !strings.Contains(data, "-") && !strings.HasPrefix(data, ">")
}

// data is a node's data, and nothing if there is no such node.
func (c *checker) data(n int) string {
	if c.d.Kind(n) == 0 {
		return ""
	}
	return c.d.Nodes[n].Data
}

// isOfHead tells whether a node may stand right beneath the head.
func (c *checker) isOfHead(n int) bool {
	switch c.name(n) {
	case "meta", "link", "base":
		return c.isEmpty(n)
	case "title":
		return c.isTextAlone(n)
	case "style":
		// Its text is written as it is, so a < in it could begin its end tag.
		return c.isTextAlone(n) && !strings.Contains(c.d.Words(n), "<")
	}
	return c.isComment(n) || c.isText(n) && text.Trim(c.data(n)) == ""
}

// isTextAlone tells whether nothing stands beneath a node, or one text.
func (c *checker) isTextAlone(n int) bool {
	return len(c.d.Kids(n)) <= 1 && c.all(n, c.isText)
}

// isInline tells whether a node, with all within, may stand in the run of a text.
func (c *checker) isInline(n int) bool {
	switch c.name(n) {
	case "br", "img", "wbr":
		return c.isEmpty(n)
	case "a":
		return !c.hasLink(n) && c.all(n, c.isInline)
	case "abbr", "b", "bdi", "bdo", "cite", "code", "data", "del", "dfn", "em", "i", "ins", "kbd", "mark", "q",
		"s", "samp", "small", "span", "strong", "sub", "sup", "time", "u", "var":
		return c.all(n, c.isInline)
	}
	return c.isText(n) || c.isComment(n)
}

// hasLink tells whether a link stands within a node: where a link begins, one that is open ends.
func (c *checker) hasLink(n int) bool {
	for range c.d.Find(n, "a") {
		return true
	}
	return false
}

// isFlow tells whether a node, with all within, may stand where blocks stand.
func (c *checker) isFlow(n int) bool { return c.isInline(n) || c.isBlock(n) }

func (c *checker) isBlock(n int) bool {
	switch c.name(n) {
	case "hr":
		return c.isEmpty(n)
	case "address", "article", "aside", "blockquote", "details", "div", "figcaption", "figure", "footer", "header",
		"main", "nav", "section", "summary":
		return c.all(n, c.isFlow)
	case "h1", "h2", "h3", "h4", "h5", "h6", "p":
		return c.all(n, c.isInline)
	case "pre":
		return !c.beginsWithNewline(n) && c.all(n, c.isInline)
	case "ol", "ul":
		return c.all(n, c.holding(c.isFlow, "li"))
	case "dl":
		return c.all(n, c.holding(c.isFlow, "dt", "dd"))
	case "table":
		return c.all(n, c.isTablePart())
	}
	return false
}

// beginsWithNewline tells whether the first that stands beneath a node begins with a newline, which isn't read again.
func (c *checker) beginsWithNewline(n int) bool {
	kids := c.d.Kids(n)
	return len(kids) > 0 && strings.HasPrefix(c.data(kids[0]), "\n")
}

// isTablePart tells of nodes whether they may stand right beneath a table.
func (c *checker) isTablePart() func(n int) bool {
	cell := c.holding(c.isFlow, "td", "th")
	row := c.holding(cell, "tr")
	return c.holding(row, "thead", "tbody", "tfoot")
}
